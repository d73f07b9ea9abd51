/- Part 1 of what these claims stand on: contracts of the program's and the reference's functions, and plain facts. Conditions: each states its own. -/
import Derived.WalkKit
import Derived.Test.YtlfmeiejocpnfaaProg
import Derived.WalkSmall
import Derived.Shelf.Spec.BitsCarry
import Derived.Laws.AppendOwnNone
import Derived.Deep.QuietTactic
import Derived.BigQuiet
import Derived.Deep.RegionWith
import Derived.Deep.RegionHeld3
import Derived.Deep.DeepCutAuto
import Derived.Laws.StructEq
import Derived.Below
import Derived.ProofKit
import Derived.OpenShut
import Derived.ShutString
import Derived.ChangeOld
import Derived.Lib.SmallJoins
import Derived.Laws.Cover3
import Derived.Shelf.Small.Bits
import Derived.Lib.BitFns
import Derived.OwnWalk
import Derived.Laws.IdiomCopy
import Derived.Lib.QuietBelow
import Derived.Deep.LoopGhost
import Derived.Laws.CopyOwn
import Derived.Maps.AppendAt
import Derived.Deep.AppendLies
import Derived.Deep.Draws
import Derived.Shelf.Strconv.Itoa0
import Derived.KernelRfl
import Derived.Orders
import Derived.Shelf.Bytes.SlEqualAll
import Derived.Lib.AppendZerosOnto
import Derived.Deep.MidRow
import Derived.Laws.Rows
import Derived.Laws.CopyRow
import Derived.Laws.Tables
import Derived.Great.BuildSlice
import Derived.Deep.RegionLaw
import Derived.Laws.EntriesVeiled
namespace Go.Proofs.Ytlfmeiejocpnfaa
set_option linter.unusedVariables false
set_option linter.unusedSimpArgs false
section
open Go Go.RowKit
def val : List Nat → Nat
 | [] => 0
 | x :: r => x + 18446744073709551616 * val r
def W64 (l : List Nat) : Prop := ∀ x ∈ l, x < 18446744073709551616
theorem val_append (a b : List Nat) : val (a ++ b) = val a + 18446744073709551616 ^ a.length * val b := by
 induction a with
 | nil => simp [val]
 | cons x r ih => simp only [List.cons_append, val, ih, List.length_cons, Nat.pow_succ]; grind
theorem val_snoc (a : List Nat) (x : Nat) : val (a ++ [x]) = val a + 18446744073709551616 ^ a.length * x := by rw [val_append]; simp [val]
theorem val_lt (a : List Nat) (h : W64 a) : val a < 18446744073709551616 ^ a.length := by
 induction a with
 | nil => simp [val]
 | cons x r ih =>
   have h1 := ih (fun y hy => h y (by simp [hy]))
   have h2 := h x (by simp)
   simp only [val, List.length_cons, Nat.pow_succ]
   omega
def limbs (n : Nat) : List Nat := if h : n = 0 then [] else n % 18446744073709551616 :: limbs (n / 18446744073709551616)
termination_by n
decreasing_by omega
theorem limbs_zero : limbs 0 = [] := by rw [limbs]; simp
theorem limbs_pos {n : Nat} (h : n ≠ 0) : limbs n = n % 18446744073709551616 :: limbs (n / 18446744073709551616) := by rw [limbs]; simp [h]
theorem limbs_nil {n : Nat} : limbs n = [] ↔ n = 0 := by
 constructor
 · intro h; false_or_by_contra; rename_i h0; rw [limbs_pos h0] at h; simp at h
 · rintro rfl; exact limbs_zero
theorem val_limbs (n : Nat) : val (limbs n) = n := by
 induction n using Nat.strongRecOn with
 | ind n ih =>
   by_cases h : n = 0
   · subst h; rw [limbs_zero]; rfl
   · rw [limbs_pos h, val, ih _ (by omega)]; omega
theorem limbs_w (n : Nat) : W64 (limbs n) := by
 induction n using Nat.strongRecOn with
 | ind n ih =>
   by_cases h : n = 0
   · subst h; rw [limbs_zero]; intro x hx; simp at hx
   · rw [limbs_pos h]; intro x hx
     rcases List.mem_cons.1 hx with rfl | hx
     · omega
     · exact ih _ (by omega) x hx
theorem limbs_of (l : List Nat) (h : W64 l) (ht : l.getLast? ≠ some 0) : limbs (val l) = l := by
 induction l with
 | nil => exact limbs_zero
 | cons x r ih =>
   have hx := h x (by simp)
   have hr : r = [] ∨ r.getLast? ≠ some 0 := by
     cases r with
     | nil => exact Or.inl rfl
     | cons y s => right; simpa [List.getLast?_cons_cons] using ht
   have hpos : val (x :: r) ≠ 0 := by
     rcases hr with rfl | hr
     · simp [val] at *; exact ht
     · by_cases hr0 : r = []
       · subst hr0; simp [val] at *; exact ht
       · have h1 := ih (fun y hy => h y (by simp [hy])) hr
         have : val r ≠ 0 := fun e => hr0 (by rw [← h1, e, limbs_zero])
         simp only [val]; omega
   have hi : limbs (val r) = r := by
     rcases hr with rfl | hr
     · exact limbs_zero
     · exact ih (fun y hy => h y (by simp [hy])) hr
   rw [limbs_pos hpos]
   simp only [val]
   rw [show (x + 18446744073709551616 * val r) / 18446744073709551616 = val r by omega, hi, show (x + 18446744073709551616 * val r) % 18446744073709551616 = x by omega]
theorem limbs_last (n : Nat) : (limbs n).getLast? ≠ some 0 := by
 induction n using Nat.strongRecOn with
 | ind n ih =>
   by_cases h : n = 0
   · subst h; rw [limbs_zero]; simp
   · rw [limbs_pos h]
     by_cases h2 : n / 18446744073709551616 = 0
     · rw [h2, limbs_zero]; simp; omega
     · have := ih (n / 18446744073709551616) (by omega)
       rw [limbs_pos h2] at this ⊢
       rw [List.getLast?_cons_cons]; exact this
theorem limbs_len_le {n k : Nat} : (limbs n).length ≤ k ↔ n < 18446744073709551616 ^ k := by
 induction k generalizing n with
 | zero => simp [limbs_nil]
 | succ k ih =>
   by_cases h : n = 0
   · subst h; simp [limbs_zero]; exact Nat.pos_of_ne_zero (by simp [Nat.pow_eq_zero])
   · rw [limbs_pos h, List.length_cons, Nat.pow_succ, Nat.add_le_add_iff_right, ih]
     constructor
     · intro h1; have := Nat.div_add_mod n 18446744073709551616; omega
     · intro h1; rw [Nat.div_lt_iff_lt_mul (by omega)]; exact h1
theorem val_take_drop (l : List Nat) (k : Nat) (h : k ≤ l.length) : val l = val (l.take k) + 18446744073709551616 ^ k * val (l.drop k) := by
 have := val_append (l.take k) (l.drop k)
 rw [List.take_append_drop] at this
 rw [this, List.length_take, Nat.min_eq_left h]
theorem val_take_succ (l : List Nat) (k : Nat) (h : k < l.length) : val (l.take (k + 1)) = val (l.take k) + 18446744073709551616 ^ k * l[k] := by
 rw [List.take_succ_eq_append_getElem h, val_snoc, List.length_take, Nat.min_eq_left (by omega)]
theorem val_drop (l : List Nat) (k : Nat) (h : k < l.length) : val (l.drop k) = l[k] + 18446744073709551616 * val (l.drop (k + 1)) := by
 rw [List.drop_eq_getElem_cons h, val]
theorem w64_take {l : List Nat} (h : W64 l) (k : Nat) : W64 (l.take k) := fun x hx => h x (List.mem_of_mem_take hx)
theorem w64_drop {l : List Nat} (h : W64 l) (k : Nat) : W64 (l.drop k) := fun x hx => h x (List.mem_of_mem_drop hx)
theorem w64_get {l : List Nat} (h : W64 l) (k : Nat) (hk : k < l.length) : l[k] < 18446744073709551616 := h _ (List.getElem_mem _)
end
section
open Go Go.RowKit
theorem tq (a b : Int) (hb : b ≠ 0) : b * a.tdiv b + a.tmod b = a ∧ (a.tmod b).natAbs < b.natAbs ∧ (0 ≤ a → 0 ≤ a.tmod b) ∧ (a ≤ 0 → a.tmod b ≤ 0) ∧ (a.tdiv b).natAbs ≤ a.natAbs ∧ (2 ≤ b.natAbs → 2 * (a.tdiv b).natAbs ≤ a.natAbs) ∧ (b = 1 → a.tdiv b = a) ∧ (b = -1 → a.tdiv b = -a) := by
 have h1 := Int.mul_tdiv_add_tmod a b
 have h2 := Int.natAbs_tmod a b
 have h3 := Int.natAbs_tdiv a b
 have h4 : a.natAbs % b.natAbs < b.natAbs := Nat.mod_lt _ (by omega)
 have h5 : a.natAbs.div b.natAbs = a.natAbs / b.natAbs := rfl
 have h6 : a.natAbs / b.natAbs ≤ a.natAbs := Nat.div_le_self _ _
 refine ⟨h1, by omega, fun h => Int.tmod_nonneg _ h, fun h => ?_, by omega, fun h => ?_, fun h => by subst h; simp, fun h => by subst h; simp [Int.tdiv_neg]⟩
 · have := Int.tmod_nonneg (a := -a) b (by omega)
   rw [Int.neg_tmod] at this; omega
 · have h7 : b.natAbs * (a.natAbs / b.natAbs) ≤ a.natAbs := Nat.mul_div_le _ _
   have h8 : 2 * (a.natAbs / b.natAbs) ≤ b.natAbs * (a.natAbs / b.natAbs) := Nat.mul_le_mul_right _ h
   omega
end
section
open Go Go.RowKit
theorem info_u64 : (Try.prog.info? 22).map (fun i => (i.zero, i.size, i.bytes)) = some (some (.int .u64 0), 1, 8) := by kernel_rfl
def wd (l : List Nat) : List Value := l.map fun x : Nat => Value.int .u64 (x : Int)
def Words (B : Nat) (w : World) (v : Value) (l : List Nat) : Prop := w.ownsRow B 22 1 v l.length (wd l) ∧ W64 l
def lenOf : Value → Nat | .slice _ n _ => n | _ => 0
theorem rb1 {k : IntKind} {a a' : Int} (h1 : a = a') : Ending.returned (Value.int k a) = .returned (.int k a') := by rw [h1]
theorem hide {p : Prop} (h : p) : Hid p := h
theorem nil_or_snoc {α : Type} (l : List α) : l = [] ∨ ∃ r x, l = r ++ [x] := by
 rcases List.eq_nil_or_concat l with h | ⟨r, x, h⟩
 · exact Or.inl h
 · exact Or.inr ⟨r, x, by rw [h, List.concat_eq_append]⟩
theorem Words.nil {B : Nat} {w : World} {v : Value} (h : Words B w v []) : ∃ a cap, v = .slice a 0 cap ∧ cap ≤ 9223372036854775807 := by
 obtain ⟨⟨_, h1 | ⟨g, cap, cur, e, h1⟩⟩, _⟩ := h
 · exact ⟨_, _, h1.1, by omega⟩
 · refine ⟨_, _, e, ?_⟩; have := h1.2.2.2.1; unfold maxLen at this; omega
theorem Words.pos {B : Nat} {w : World} {v : Value} {l : List Nat} (h : Words B w v l) (n : Nat) (hl : l.length = n) (h0 : 0 < n) : ∃ g cap, v = .slice (some ⟨g, 0, none⟩) n cap ∧ n ≤ cap ∧ cap ≤ 9223372036854775807 ∧ B ≤ g ∧ g < w.heap.size ∧
   (∀ i (hi : i < l.length), w.cell? ⟨g, i, none⟩ = some (.int .u64 (l[i] : Int))) ∧ ∀ i, w.frozen? ⟨g, i, none⟩ = false := by
 subst hl
 obtain ⟨h, _⟩ := h
 have hc := h
 obtain ⟨_, h1 | ⟨g, cap, cur, rfl, hb, hh, hn, hm, _⟩⟩ := h
 · omega
 · refine ⟨g, cap, rfl, hn, by unfold maxLen at hm; omega, hb, ?_, fun i hi => ?_, fun i => hc.frozenAt i⟩
   · exact (hc.lt g rfl).2
   · rw [hc.cellAt i (by omega)]; simp [wd, hi]
theorem Words.pop {B : Nat} {w : World} {g cap : Nat} {l : List Nat} {x : Nat} (h : Words B w (.slice (some ⟨g, 0, none⟩) (l.length + 1) cap) (l ++ [x])) : Words B w (.slice (some ⟨g, 0, none⟩) l.length cap) l := by
 refine ⟨ownsRow_pop (last := [.int .u64 (x : Int)]) (by simp [wd]) ?_, fun y hy => h.2 y (by simp [hy])⟩
 have := h.1
 simpa [wd] using this
theorem Words.ext {B : Nat} {w w' : World} {v : Value} {l : List Nat} (h : Words B w v l) (k : Below w.heap.size w w') : Words B w' v l := by
 refine ⟨?_, h.2⟩
 obtain ⟨h1, h2 | ⟨g, cap, cur, hv, hg, hh, r⟩⟩ := h.1
 · exact ⟨h1, Or.inl h2⟩
 · have hlt := (h.1.lt g (by rw [hv]; rfl)).2
   exact ⟨h1, Or.inr ⟨g, cap, cur, hv, hg, by rw [k.block g hlt]; exact hh, r⟩⟩
theorem Words.base {B B' : Nat} {w : World} {v : Value} {l : List Nat} (h : Words B w v l) (k : B' ≤ B) : Words B' w v l := by
 refine ⟨?_, h.2⟩
 obtain ⟨h1, h2 | ⟨g, cap, cur, hv, hg, r⟩⟩ := h.1
 · exact ⟨h1, Or.inl h2⟩
 · exact ⟨h1, Or.inr ⟨g, cap, cur, hv, by omega, r⟩⟩
def Ext (w w' : World) : Prop := Below w.heap.size w w'
theorem Ext.refl (w : World) : Ext w w := Below.refl _ _
theorem Ext.trans {a b c : World} (h : Ext a b) (k : Ext b c) : Ext a c := Below.trans h (Below.mono k h.size)
theorem ext_drewN (w : World) (n : Nat) : Ext w (w.drewN n) := ⟨rfl, rfl, rfl, Nat.le_refl _, fun _ _ => rfl⟩
theorem ext_drew (w : World) : Ext w w.drew := ⟨rfl, rfl, rfl, Nat.le_refl _, fun _ _ => rfl⟩
theorem ext_alloc (w : World) (o : Obj) : Ext w (w.alloc o) := (Below.refl _ _).alloc (Nat.le_refl _) o
def SomeWords (B : Nat) (l : List Nat) (w : World) (e : Ending) (w' : World) : Prop := ∃ v, e = .returned v ∧ Words B w' v l ∧ w = w'
theorem trim_any (B : Nat) (v : Value) (l : List Nat) (w : World) (h : Words B w v l) : Calls Try.prog 48 #[v] w (SomeWords B (limbs (val l)) w) := by
 go_enter Try.func48, Try.ntmps48
 go_wp2_with fail
 go_loop [0] (fun v => ∃ m, Words B w v m ∧ val m = val l) (fun v => lenOf v)
 case atStart => exact ⟨l, h, rfl⟩
 case round =>
   obtain ⟨m, hm, e⟩ := hrel
   rcases nil_or_snoc m with rfl | ⟨r, x, rfl⟩
   · obtain ⟨a, cap, rfl, _⟩ := hm.nil
     go_wp2
     go_ret
     exact ⟨_, rfl, by rw [← e]; simpa [val, limbs_zero] using hm, rfl⟩
   · obtain ⟨g, cap, rfl, h1, h2, h3, h4, hc, hf⟩ := hm.pos (r.length + 1) (by simp) (by omega)
     have hx := hc r.length (by simp)
     rw [show (r ++ [x])[r.length]'(by simp) = x by simp] at hx
     have hpop := hm.pop
     clear hc hf
     by_cases hz : x = 0
     · subst hz
       have e2 : val r = val l := by rw [← e, val_snoc]; simp
       have HE := (show Hid _ from e2)
       clear e e2
       go_wp2
       exact ⟨⟨r, hpop, HE.out⟩, by simp [lenOf]⟩
     · have hz' : ((x : Int) == 0) = false := by simp; omega
       have e2 : limbs (val (r ++ [x])) = r ++ [x] := limbs_of _ hm.2 (by simp [hz])
       have HE : Hid (limbs (val l) = r ++ [x]) := by rw [← e]; exact e2
       clear e e2
       go_wp2
       go_ret
       exact ⟨_, rfl, by rw [HE.out]; exact hm, rfl⟩
theorem cmp_lt (l m : List Nat) (k : Nat) (h1 : k < l.length) (h2 : k < m.length) (hl : W64 l) (he : l.drop (k + 1) = m.drop (k + 1)) (hx : l[k] < m[k]) : val l < val m := by
 rw [val_take_drop l k (by omega), val_take_drop m k (by omega), val_drop l k h1, val_drop m k h2, he]
 have h3 := val_lt (l.take k) (w64_take hl k)
 rw [List.length_take, Nat.min_eq_left (by omega)] at h3
 have h4 : 18446744073709551616 ^ k * (l[k] + 18446744073709551616 * val (m.drop (k + 1)) + 1) ≤ 18446744073709551616 ^ k * (m[k] + 18446744073709551616 * val (m.drop (k + 1))) := Nat.mul_le_mul_left _ (by omega)
 rw [Nat.mul_add _ _ 1] at h4
 omega
theorem len_lt {n m : Nat} (h : (limbs n).length < (limbs m).length) : n < m := by
 have h1 := (limbs_len_le (n := n) (k := (limbs n).length)).1 (Nat.le_refl _)
 have h2 : ¬ m < 18446744073709551616 ^ (limbs n).length := fun e => by have := limbs_len_le.2 e; omega
 omega
def sgnN (n m : Nat) : Int := if n < m then -1 else if m < n then 1 else 0
def SomeInt (k : Int) (w : World) (e : Ending) (w' : World) : Prop := e = .returned (.int .i64 k) ∧ Ext w w'
theorem Words.shape {B : Nat} {w : World} {v : Value} {l : List Nat} (h : Words B w v l) (n : Nat) (hl : l.length = n) : ∃ a cap, v = .slice a n cap ∧ n ≤ cap ∧ cap ≤ 9223372036854775807 ∧
   ∀ i (hi : i < l.length), ∃ g, a = some ⟨g, 0, none⟩ ∧ B ≤ g ∧ g < w.heap.size ∧ w.cell? ⟨g, i, none⟩ = some (.int .u64 (l[i] : Int)) := by
 subst hl
 by_cases h0 : 0 < l.length
 · obtain ⟨g, cap, rfl, h1, h2, h3, h4, hc, hf⟩ := h.pos _ rfl h0
   exact ⟨_, _, rfl, h1, h2, fun i hi => ⟨g, rfl, h3, h4, hc i hi⟩⟩
 · have : l = [] := List.eq_nil_of_length_eq_zero (by omega)
   subst this
   obtain ⟨a, cap, rfl, h1⟩ := h.nil
   exact ⟨_, _, rfl, by simp, h1, fun i hi => by simp at hi⟩
theorem compare_any (B C : Nat) (u v : Value) (n m : Nat) (w : World) (h : Words B w u (limbs n)) (k : Words C w v (limbs m)) :
   Calls Try.prog 33 #[u, v] w (SomeInt (sgnN n m) w) := by
 obtain ⟨la, hla⟩ : ∃ la, (limbs n).length = la := ⟨_, rfl⟩
 obtain ⟨lb, hlb⟩ : ∃ lb, (limbs m).length = lb := ⟨_, rfl⟩
 obtain ⟨a, ca, rfl, a1, a2, fa⟩ := h.shape la hla
 obtain ⟨b, cb, rfl, b1, b2, fb⟩ := k.shape lb hlb
 have hd : la < lb ∨ lb < la ∨ la = lb := by omega
 rcases hd with hd | hd | rfl
 · have H : sgnN n m = -1 := if_pos (len_lt (by omega))
   have H2 : Hid (sgnN n m = -1) := H
   clear H hla hlb fa fb h k
   go_enter Try.func33, Try.ntmps33
   go_wp2
   go_ret
   exact ⟨rb1 H2.out.symm, Ext.refl _⟩
 · have hlt : m < n := len_lt (by omega)
   have H2 : Hid (sgnN n m = 1) := by unfold Hid sgnN; rw [if_neg (by omega), if_pos hlt]
   clear hlt hla hlb fa fb h k
   go_enter Try.func33, Try.ntmps33
   go_wp2
   go_ret
   exact ⟨rb1 H2.out.symm, Ext.refl _⟩
 · have H1 : Hid ((limbs n).length = la) := hla
   have H2 : Hid ((limbs m).length = la) := hlb
   have FA : Hid (∀ i (hi : i < (limbs n).length), ∃ g, a = some ⟨g, 0, none⟩ ∧ B ≤ g ∧ g < w.heap.size ∧ w.cell? ⟨g, i, none⟩ = some (.int .u64 ((limbs n)[i] : Int))) := fa
   have FB : Hid (∀ i (hi : i < (limbs m).length), ∃ g, b = some ⟨g, 0, none⟩ ∧ C ≤ g ∧ g < w.heap.size ∧ w.cell? ⟨g, i, none⟩ = some (.int .u64 ((limbs m)[i] : Int))) := fb
   clear hla hlb fa fb h k
   go_enter Try.func33, Try.ntmps33
   go_wp2_with fail
   go_loopw [5] (fun i wr => ∃ k : Nat, i = .int .i64 ((k : Int) - 1) ∧ k ≤ la ∧ Hid ((limbs n).drop k = (limbs m).drop k) ∧ Ext w wr) (fun i _ => (intOf i + 1).toNat)
   case atStart => exact ⟨la, rfl, Nat.le_refl _, by unfold Hid; rw [List.drop_of_length_le (by rw [H1.out]; omega), List.drop_of_length_le (by rw [H2.out]; omega)], Ext.refl _⟩
   case round =>
     obtain ⟨k, rfl, hk, HD, hE⟩ := hrel
     by_cases hk0 : k = 0
     · subst hk0
       go_wp2
       go_ret
       exact ⟨rb1 (by have e := HD.out; simp only [List.drop_zero] at e; have e2 := congrArg val e; rw [val_limbs, val_limbs] at e2; subst e2; simp [sgnN]), hE⟩
     · obtain ⟨j, rfl⟩ : ∃ j, k = j + 1 := ⟨k - 1, by omega⟩
       obtain ⟨g, rfl, _, hg, cg⟩ := FA.out j (by rw [H1.out]; omega)
       obtain ⟨g', rfl, _, hg', cg'⟩ := FB.out j (by rw [H2.out]; omega)
       have cg1 : wr.cell? ⟨g, j, none⟩ = _ := (hE.cell (p := ⟨g, j, none⟩) hg).trans cg
       have cg1' : wr.cell? ⟨g', j, none⟩ = _ := (hE.cell (p := ⟨g', j, none⟩) hg').trans cg'
       obtain ⟨x, hx⟩ : ∃ x, (limbs n)[j]'(by rw [H1.out]; omega) = x := ⟨_, rfl⟩
       obtain ⟨y, hy⟩ : ∃ y, (limbs m)[j]'(by rw [H2.out]; omega) = y := ⟨_, rfl⟩
       rw [hx] at cg1
       rw [hy] at cg1'
       have HX := show Hid ((limbs n)[j]'(by rw [H1.out]; omega) = x) from hx
       have HY := show Hid ((limbs m)[j]'(by rw [H2.out]; omega) = y) from hy
       clear hx hy cg cg' FA FB
       have hs1 : j < (limbs n).length := by rw [H1.out]; omega
       have hs2 : j < (limbs m).length := by rw [H2.out]; omega
       have hE2 : ∀ q, Ext w (wr.drewN q) := fun q => hE.trans (ext_drewN _ _)
       rcases (by omega : x < y ∨ y < x ∨ x = y) with hxy | hxy | hxy
       · have HL : Hid (sgnN n m = -1) := by
           have := cmp_lt (limbs n) (limbs m) j hs1 hs2 (limbs_w n) HD.out (by rw [HX.out, HY.out]; exact hxy)
           rw [val_limbs, val_limbs] at this
           exact if_pos this
         clear HX HY
         go_wp2
         go_quiet (fail)
         go_wp2
         go_ret
         exact ⟨rb1 HL.out.symm, hE2 _⟩
       · have HL : Hid (sgnN n m = 1) := by
           have := cmp_lt (limbs m) (limbs n) j hs2 hs1 (limbs_w m) HD.out.symm (by rw [HX.out, HY.out]; exact hxy)
           rw [val_limbs, val_limbs] at this
           unfold Hid sgnN; rw [if_neg (by omega), if_pos this]
         clear HX HY
         go_wp2
         go_quiet (fail)
         go_wp2
         go_quiet (fail)
         go_wp2
         go_ret
         exact ⟨rb1 HL.out.symm, (hE2 _).trans (ext_drewN _ _)⟩
       · subst hxy
         have HD2 : Hid ((limbs n).drop j = (limbs m).drop j) := by
           unfold Hid; rw [List.drop_eq_getElem_cons hs1, List.drop_eq_getElem_cons hs2, HD.out, HX.out, HY.out]
         clear HX HY
         go_wp2
         go_quiet (fail)
         go_wp2
         go_quiet (fail)
         go_wp2
         go_roundw
         case rel => exact ⟨j, by go_num, by omega, HD2, by first | exact hE2 _ | exact (hE2 _).trans (ext_drewN _ _)⟩
         case measure => first | (simp [intOf]; done) | (simp [intOf]; omega)
def mag4 (a b c d : Nat) : Nat := val [a, b, c, d]
def NewWords (B : Nat) (n : Nat) (w : World) (e : Ending) (w' : World) : Prop := ∃ v, e = .returned v ∧ Words B w' v (limbs n) ∧ Ext w w'
theorem words_fresh (B : Nat) (w : World) (cur : Array Value) (g n cap : Nat) (l : List Nat) (hn : l.length = n) (hl : W64 l) (hB : B ≤ w.heap.size) (hg : g = w.heap.size) (hc : n ≤ cap) (hm : cap ≤ maxLen) (hs : cur.size = cap) (ht : cur.toList.take l.length = wd l) :
   Words B (w.alloc (.cells cur 22)) (.slice (some ⟨g, 0, none⟩) n cap) l := by
 subst hg
 subst hn
 exact ⟨⟨by simp [wd], Or.inr ⟨w.heap.size, cap, cur, rfl, hB, heap_alloc_new w _, hc, hm, by omega, by simpa using ht⟩⟩, hl⟩
theorem Words.drew {B : Nat} {w : World} {v : Value} {l : List Nat} (h : Words B w v l) : Words B w.drew v l := h
theorem of_any (B : Nat) (s : Bool) (a b c d : Nat) (w : World) (hB : B ≤ w.heap.size) (ha : a < 18446744073709551616) (hb : b < 18446744073709551616) (hc : c < 18446744073709551616) (hd : d < 18446744073709551616) :
   Calls Try.prog 30 #[.agg #[.bool s, .int .u64 a, .int .u64 b, .int .u64 c, .int .u64 d]] w (NewWords B (mag4 a b c d) w) := by
 have hcap : ¬281474976710656 < Builtin.nextslicecap 4 0 * Try.t22.bytes := by decide
 have hw : W64 [a, b, c, d] := by intro x hx; simp at hx; omega
 have g1 := grownCap_ge w 4 0 22
 have g2 := grownCap_le_maxLen w 4 0 22 (by unfold maxLen; omega)
 have e1 : ((w.alloc (.cells #[.bool s, .int .u64 a, .int .u64 b, .int .u64 c, .int .u64 d] 25)).alloc (.cells #[] 22)).heap.size = w.heap.size + 1 + 1 := by simp
 have hf := words_fresh B ((w.alloc (.cells #[.bool s, .int .u64 a, .int .u64 b, .int .u64 c, .int .u64 d] 25)).alloc (.cells #[] 22))
   (#[.int .u64 a, .int .u64 b, .int .u64 c, .int .u64 d] ++ Builtin.zeroCells #[.int .u64 0] (grownCap w 4 0 22 - 4)) (w.heap.size + 1 + 1) 4 (grownCap w 4 0 22) [a, b, c, d] rfl hw (by omega) e1.symm (by simpa using g1) g2 (by simp [size_zeroCells]; omega) (by simp [wd])
 unfold grownCap at hf
 have HF := hide hf
 clear hf e1 g1 g2
 go_enter Try.func30, Try.ntmps30
 go_wp2_with (go_at_call 48; refine (trim_any B _ [a, b, c, d] _ (Words.drew HF.out)).mono ?_; rintro e w' ⟨v, rfl, hv, rfl⟩)
 go_ret
 exact ⟨_, rfl, hv, (((ext_alloc _ _).trans (ext_alloc _ _)).trans (ext_alloc _ _)).trans (ext_drew _)⟩
theorem add64_run (x y c : Nat) (hc : c ≤ 1) (w : World) : (callFunc 49 #[.int .u64 x, .int .u64 y, .int .u64 c]).run Try.prog w =
     .ok (.value (.tuple #[.int .u64 (((x + y + c) % 18446744073709551616 : Nat) : Int), .int .u64 (((x + y + c) / 18446744073709551616 : Nat) : Int)])) w := by
 rw [run_callFunc_extern Try.func49 (by kernel_rfl) (by kernel_rfl) (by kernel_rfl) (e := add64Entry) (by kernel_rfl), run_add64 x y c (by omega) (by omega) (by omega) (by omega)]
 simp only [Result.andThen]
 congr 5 <;> omega
theorem sub64_run (x y b : Nat) (hb : b ≤ 1) (w : World) : (callFunc 50 #[.int .u64 x, .int .u64 y, .int .u64 b]).run Try.prog w =
     .ok (.value (.tuple #[.int .u64 (((x + 18446744073709551616 - y - b) % 18446744073709551616 : Nat) : Int), .int .u64 ((if x < y + b then 1 else 0 : Nat) : Int)])) w := by
 rw [run_callFunc_extern Try.func50 (by kernel_rfl) (by kernel_rfl) (by kernel_rfl) (e := sub64Entry) (by kernel_rfl), run_sub64 x y b hb]
 rfl
open Go Go.RowKit
theorem wd_append (a b : List Nat) : wd (a ++ b) = wd a ++ wd b := by simp [wd]
theorem w64_append {a b : List Nat} (h : W64 a) (k : W64 b) : W64 (a ++ b) := fun x hx => by rcases List.mem_append.1 hx with h1 | h1; exact h x h1; exact k x h1
theorem ext_grown {w w' : World} {row : Option Nat} (h : w.grownBy w' row) (hr : ∀ k, row = some k → w.heap.size ≤ k) : Ext w w' := (Below.refl _ _).grown h (Nat.le_refl _) hr
theorem append_words {w : World} {ops : Array Oper} {rest : List Oper} {o : Oper} {a : Act} {Q : Exit → Act → World → Prop} (hgd : o.guard = none) (s x : Operand)
   (ho : o.op = .call { callee := .builtin .append, args := #[s, x], argTypes := #[69, 69] })
   (B C : Nat) (v u : Value) (l m : List Nat) (hs : a.eval s = v) (hx : a.eval x = u) (h : Words B w v l) (k : Words C w u m) (hB : B ≤ w.heap.size) (hl : l.length + m.length ≤ 1000000) (W : World) (hW : Ext W w) (hWB : W.heap.size ≤ B)
   (hK : ∀ v' w', Words B w' v' (l ++ m) → Ext W w' → wpList Try.prog ops Q rest (a.put o.dst v') w') : wpList Try.prog ops Q (o :: rest) a w := by
 obtain ⟨i0, hi, hz0, hz1, hz2⟩ := info_parts info_u64
 have hlen : (l ++ m).length = l.length + m.length := by simp
 rcases k.1.2 with ⟨rfl, h0⟩ | ⟨g, cap, cur, rfl, hg, hh, r⟩
 · have hm : m = [] := List.eq_nil_of_length_eq_zero (by omega)
   subst hm
   exact wpList_append_own_none hgd s x 69 ho B 22 i0 1 Try.underlying69 hi v l.length (wd l) hs h.1 hx (hK _ _ (by simpa using h) hW)
 · have hc := k.1
   refine wpList_append_own w hgd s x 69 ho B 22 i0 (.int .u64 0) 1 8 Try.underlying69 hi hz0 hz1 hz2 rfl (by decide) v l.length (wd l) hs h.1 ⟨g, 0, none⟩ m.length cap (wd m) hx (by simp [wd]) ?_ ?_ (by unfold maxLen; omega) (by omega) hB ?_
   · intro j y hj
     have hj2 : j < m.length := by
       have := (List.getElem?_eq_some_iff.1 hj).1; simpa [wd] using this
     rw [← hj]
     rw [← hc.cellAt j (by omega)]
     by_cases hj0 : j = 0
     · subst hj0; simp [Addr.add]
     · simp [Addr.add, hj0]
   · intro y hy
     simp only [wd, List.mem_map] at hy
     obtain ⟨z, _, rfl⟩ := hy
     rfl
   · intro v' w' h1 h2 _
     exact hK v' w' ⟨by rw [hlen, wd_append]; exact h1, w64_append h.2 k.2⟩ (hW.grown h2 hW.size fun b hb => Nat.le_trans hWB (h.1.lt b hb).1)
theorem words_empty (B : Nat) (w : World) (g : Nat) (hg : g = w.heap.size) (hB : B ≤ w.heap.size) : Words B (w.alloc (.cells #[] 22)) (.slice (some ⟨g, 0, none⟩) 0 0) [] :=
 words_fresh B w #[] g 0 0 [] rfl (by intro x hx; simp at hx) hB hg (by simp) (by unfold maxLen; omega) (by simp) (by simp [wd])
theorem Words.at {B : Nat} {w : World} {a : Option Addr} {n cap : Nat} {l : List Nat} (h : Words B w (.slice a n cap) l) (i : Nat) (hi : i < l.length) :
   ∃ g, a = some ⟨g, 0, none⟩ ∧ B ≤ g ∧ g < w.heap.size ∧ w.cell? ⟨g, i, none⟩ = some (.int .u64 (l[i] : Int)) ∧ w.frozen? ⟨g, i, none⟩ = false := by
 obtain ⟨g, cap', e, _, _, h3, h4, hc, hf⟩ := h.pos _ rfl (by omega)
 injection e with e1 e2 e3
 exact ⟨g, e1, h3, h4, hc i hi, hf i⟩
theorem Words.set {B : Nat} {w : World} {g n cap : Nat} {l : List Nat} (h : Words B w (.slice (some ⟨g, 0, none⟩) n cap) l) (hn : l.length = n) (k x : Nat) (hx : x < 18446744073709551616) : Words B (w.setCell ⟨g, k, none⟩ (.int .u64 (x : Int))) (.slice (some ⟨g, 0, none⟩) n cap) (l.set k x) := by
 subst hn
 have h1 := (h.1.stored k (.int .u64 (x : Int))).1
 refine ⟨?_, ?_⟩
 · rw [List.length_set, show wd (l.set k x) = (wd l).set k (.int .u64 (x : Int)) by simp [wd, List.map_set]]; exact h1
 · intro y hy
   rcases List.mem_or_eq_of_mem_set hy with h2 | h2
   · exact h.2 y h2
   · omega
theorem ext_set {W w : World} (h : Ext W w) {g : Nat} (hg : W.heap.size ≤ g) (k : Nat) (u : Value) : Ext W (w.setCell ⟨g, k, none⟩ u) := Below.setCell (p := ⟨g, k, none⟩) h hg u
theorem val_set_take (l : List Nat) (k x : Nat) (h : k < l.length) : val ((l.set k x).take (k + 1)) = val (l.take k) + 18446744073709551616 ^ k * x := by
 rw [val_take_succ _ k (by simpa using h), List.getElem_set_self, List.take_set_of_le (Nat.le_refl _)]
theorem drop_set (l : List Nat) (k x : Nat) : (l.set k x).drop (k + 1) = l.drop (k + 1) := by rw [List.drop_set_of_lt (by omega)]
theorem val_take_getD (l : List Nat) (k : Nat) : val (l.take (k + 1)) = val (l.take k) + 18446744073709551616 ^ k * l.getD k 0 := by
 by_cases h : k < l.length
 · rw [val_take_succ l k h]; simp [List.getD, h]
 · rw [List.take_of_length_le (by omega), List.take_of_length_le (by omega)]; simp [List.getD, show l.length ≤ k by omega]
theorem drop_get {l m : List Nat} {k : Nat} (h : l.drop k = m.drop k) (h1 : k < l.length) (h2 : k < m.length) : l[k] = m[k] ∧ l.drop (k + 1) = m.drop (k + 1) := by
 rw [List.drop_eq_getElem_cons h1, List.drop_eq_getElem_cons h2] at h
 injection h with h3 h4
 exact ⟨h3, h4⟩
def AddRel (p q os : List Nat) (k c : Nat) : Prop := os.length = p.length ∧ os.drop k = p.drop k ∧ c ≤ 1 ∧ val (os.take k) + 18446744073709551616 ^ k * c = val (p.take k) + val (q.take k)
theorem AddRel.step {p q os : List Nat} {k c : Nat} (h : AddRel p q os k c) (hk : k < p.length) (hp : W64 p) (hq : W64 q) :
   AddRel p q (os.set k ((p[k] + q.getD k 0 + c) % 18446744073709551616)) (k + 1) ((p[k] + q.getD k 0 + c) / 18446744073709551616) := by
 obtain ⟨h1, h2, h3, h4⟩ := h
 have hx := w64_get hp k hk
 have hy : q.getD k 0 < 18446744073709551616 := by
   by_cases hkq : k < q.length
   · have := w64_get hq k hkq; simp [List.getD, hkq]; exact this
   · simp [List.getD, show q.length ≤ k by omega]
 refine ⟨by simpa using h1, by rw [drop_set]; exact (drop_get h2 (by omega) hk).2, by omega, ?_⟩
 rw [val_set_take _ _ _ (by omega), val_take_succ p k hk, val_take_getD q k, Nat.pow_succ]
 generalize p[k] = x at *
 generalize q.getD k 0 = y at *
 have e := Nat.div_add_mod (x + y + c) 18446744073709551616
 generalize (x + y + c) / 18446744073709551616 = d at *
 generalize (x + y + c) % 18446744073709551616 = r at *
 grind
theorem AddRel.done {p q os : List Nat} {c : Nat} (h : AddRel p q os p.length c) (hq : q.length ≤ p.length) : val (os ++ [c]) = val p + val q := by
 obtain ⟨h1, _, _, h4⟩ := h
 rw [List.take_of_length_le (by omega), List.take_length, List.take_of_length_le hq] at h4
 rw [val_snoc, h1]; exact h4
theorem add64_run0 (x c : Nat) (hc : c ≤ 1) (w : World) : (callFunc 49 #[.int .u64 x, .int .u64 0, .int .u64 c]).run Try.prog w =
     .ok (.value (.tuple #[.int .u64 (((x + c) % 18446744073709551616 : Nat) : Int), .int .u64 (((x + c) / 18446744073709551616 : Nat) : Int)])) w := add64_run x 0 c hc w
theorem words_one (B : Nat) (w : World) (c g : Nat) (hg : g = w.heap.size) (hB : B ≤ w.heap.size) (hc : c < 18446744073709551616) : Words B (w.alloc (.cells #[.int .u64 (c : Int)] 22)) (.slice (some ⟨g, 0, none⟩) 1 1) [c] :=
 words_fresh B w #[.int .u64 (c : Int)] g 1 1 [c] rfl (by intro x hx; simp at hx; omega) hB hg (by simp) (by unfold maxLen; omega) (by simp) (by simp [wd])
theorem add_any (B C D : Nat) (u v : Value) (n m : Nat) (w : World) (h : Words C w u (limbs n)) (k : Words D w v (limbs m)) (hB : B ≤ w.heap.size) (hn : (limbs n).length ≤ 1000) (hm : (limbs m).length ≤ 1000) (hlt : ¬ (limbs n).length < (limbs m).length) :
   Calls Try.prog 32 #[u, v] w (NewWords B (n + m) w) := by
 obtain ⟨la, hla⟩ : ∃ la, (limbs n).length = la := ⟨_, rfl⟩
 obtain ⟨lb, hlb⟩ : ∃ lb, (limbs m).length = lb := ⟨_, rfl⟩
 obtain ⟨a, ca, rfl, a1, a2, _⟩ := h.shape la hla
 obtain ⟨b, cb, rfl, b1, b2, _⟩ := k.shape lb hlb
 rw [hla] at hn hlt
 rw [hlb] at hm hlt
 have HA := hide hla
 have HB := hide hlb
 have KA := hide h
 have KB := hide k
 have HE := hide (words_empty w.heap.size w w.heap.size rfl (Nat.le_refl _))
 clear hla hlb h k
 have hE0 := hide (ext_alloc w (.cells #[] 22))
 have hS := hide (Nat.le_succ w.heap.size)
 go_enter Try.func32, Try.ntmps32
 go_wp2_with (at_builtin; refine append_words rfl (.tmp 16) (.tmp 17) rfl w.heap.size C _ _ [] (limbs n) rfl rfl HE.out (KA.out.ext hE0.out) (by simp) (by rw [HA.out]; simp; omega) w hE0.out (Nat.le_refl _) ?_; intro v1 w1 hv1 hE1)
 have HV := hide hv1
 obtain ⟨ao, cap1, rfl, _, c2, _⟩ := hv1.shape la (by simpa using HA.out)
 clear hv1
 go_loopw [6, 7] (fun t i wr => ∃ (k c : Nat) (os : List Nat), i = .int .i64 k ∧ t = .int .u64 c ∧ k ≤ la ∧ c ≤ 1 ∧ Hid (AddRel (limbs n) (limbs m) os k c) ∧ Words w.heap.size wr (.slice ao la cap1) os ∧ Ext w wr) (fun _ i _ => la - (intOf i).toNat)
 case atStart => exact ⟨0, 0, limbs n, rfl, rfl, by omega, by omega, ⟨rfl, rfl, by omega, by simp [val]⟩, by simpa using HV.out, hE1⟩
 case round =>
   obtain ⟨k, c, os, rfl, rfl, hk, hc, HR, hW, hE⟩ := hrel
   have hol : os.length = la := by rw [HR.out.1]; exact HA.out
   have HO := hide hol
   clear hol
   by_cases hkl : k < la
   · obtain ⟨g, rfl, hg0, hg, cg, fg⟩ := hW.at k (by rw [HO.out]; exact hkl)
     obtain ⟨x, hx⟩ : ∃ x, os[k]'(by rw [HO.out]; exact hkl) = x := ⟨_, rfl⟩
     rw [hx] at cg
     have HX : Hid (x = (limbs n)[k]'(by rw [HA.out]; exact hkl)) := by rw [← hx]; exact (drop_get HR.out.2.1 (by rw [HO.out]; exact hkl) (by rw [HA.out]; exact hkl)).1
     clear hx
     by_cases hkb : k < lb
     · obtain ⟨gb, rfl, _, hgb, cb, _⟩ := KB.out.at k (by rw [HB.out]; exact hkb)
       have cb' : wr.cell? ⟨gb, k, none⟩ = _ := (hE.cell (p := ⟨gb, k, none⟩) hgb).trans cb
       obtain ⟨y, hy⟩ : ∃ y, (limbs m)[k]'(by rw [HB.out]; exact hkb) = y := ⟨_, rfl⟩
       rw [hy] at cb'
       clear cb
       have HY : Hid ((limbs m).getD k 0 = y) := by rw [← hy]; simp [Hid, List.getD, show k < (limbs m).length by rw [HB.out]; exact hkb]
       clear hy
       have hadd := add64_run x y c hc
       have HS : Hid (AddRel (limbs n) (limbs m) (os.set k ((x + y + c) % 18446744073709551616)) (k + 1) ((x + y + c) / 18446744073709551616)) := by
         have := HR.out.step (by rw [HA.out]; exact hkl) (limbs_w n) (limbs_w m)
         rw [← HX.out, HY.out] at this
         exact this
       have HW2 := hW.set HO.out k ((x + y + c) % 18446744073709551616) (by omega)
       rw [show (((x + y + c) % 18446744073709551616 : Nat) : Int) = ((x : Int) + y + c) % 18446744073709551616 by omega] at HW2
       have HW := hide HW2
       clear HW2
       go_wp2
       exact ⟨⟨k + 1, _, _, by go_num, by go_num, by omega, HS.out.2.2.1, HS, HW.out, ext_set hE hg0 _ _⟩, by simp [intOf]; omega⟩
     · have HY : Hid ((limbs m).getD k 0 = 0) := by simp [Hid, List.getD, show (limbs m).length ≤ k by rw [HB.out]; omega]
       have hadd := add64_run0 x c hc
       have HS : Hid (AddRel (limbs n) (limbs m) (os.set k ((x + 0 + c) % 18446744073709551616)) (k + 1) ((x + 0 + c) / 18446744073709551616)) := by
         have := HR.out.step (by rw [HA.out]; exact hkl) (limbs_w n) (limbs_w m)
         rw [← HX.out, HY.out] at this
         exact this
       have HW2 := hW.set HO.out k ((x + 0 + c) % 18446744073709551616) (by omega)
       rw [show (((x + 0 + c) % 18446744073709551616 : Nat) : Int) = ((x : Int) + c) % 18446744073709551616 by omega] at HW2
       have HW := hide HW2
       clear HW2
       go_wp2
       exact ⟨⟨k + 1, _, _, by go_num, by go_num, by omega, HS.out.2.2.1, HS, HW.out, ext_set hE hg0 _ _⟩, by simp [intOf]; omega⟩
   · obtain rfl : k = la := by omega
     have H1 : Hid (val (os ++ [c]) = n + m) := by
       have h1 := HR.out
       rw [show k = (limbs n).length from HA.out.symm] at h1
       have := h1.done (by rw [HA.out, HB.out]; omega)
       rwa [val_limbs, val_limbs] at this
     have H2 := hide (words_one wr.heap.size wr c wr.heap.size rfl (Nat.le_refl _) (by omega))
     have hE2 := hide (ext_alloc wr (.cells #[.int .u64 (c : Int)] 22))
     go_wp2_with (first
       | (at_builtin; refine append_words rfl (.tmp 46) (.tmp 48) rfl w.heap.size wr.heap.size _ _ os [c] rfl rfl (hW.ext hE2.out) H2.out (Nat.le_trans hE.size hE2.out.size) (by rw [HO.out]; simp; omega) w (hE.trans hE2.out) (Nat.le_refl _) ?_; intro v2 w2 hv2 hE3)
       | (go_at_call 48; refine (trim_any _ _ _ _ hv2).mono ?_; rintro e w' ⟨v3, rfl, hv3, rfl⟩))
     go_ret
     exact ⟨_, rfl, by rw [← H1.out]; exact hv3.base hB, hE3⟩
theorem add_sw (B C D : Nat) (u v : Value) (n m : Nat) (w : World) (h : Words C w u (limbs n)) (k : Words D w v (limbs m)) (hB : B ≤ w.heap.size) (hn : (limbs n).length ≤ 1000) (hm : (limbs m).length ≤ 1000) (hlt : (limbs m).length < (limbs n).length) :
   Calls Try.prog 32 #[v, u] w (NewWords B (n + m) w) := by
 obtain ⟨la, hla⟩ : ∃ la, (limbs n).length = la := ⟨_, rfl⟩
 obtain ⟨lb, hlb⟩ : ∃ lb, (limbs m).length = lb := ⟨_, rfl⟩
 obtain ⟨a, ca, rfl, a1, a2, _⟩ := h.shape la hla
 obtain ⟨b, cb, rfl, b1, b2, _⟩ := k.shape lb hlb
 rw [hla] at hn hlt
 rw [hlb] at hm hlt
 have HA := hide hla
 have HB := hide hlb
 have KA := hide h
 have KB := hide k
 have HE := hide (words_empty w.heap.size w w.heap.size rfl (Nat.le_refl _))
 clear hla hlb h k
 have hE0 := hide (ext_alloc w (.cells #[] 22))
 have hS := hide (Nat.le_succ w.heap.size)
 go_enter Try.func32, Try.ntmps32
 go_wp2_with (at_builtin; refine append_words rfl (.tmp 16) (.tmp 17) rfl w.heap.size C _ _ [] (limbs n) rfl rfl HE.out (KA.out.ext hE0.out) (by simp) (by rw [HA.out]; simp; omega) w hE0.out (Nat.le_refl _) ?_; intro v1 w1 hv1 hE1)
 have HV := hide hv1
 obtain ⟨ao, cap1, rfl, _, c2, _⟩ := hv1.shape la (by simpa using HA.out)
 clear hv1
 go_loopw [6, 7] (fun t i wr => ∃ (k c : Nat) (os : List Nat), i = .int .i64 k ∧ t = .int .u64 c ∧ k ≤ la ∧ c ≤ 1 ∧ Hid (AddRel (limbs n) (limbs m) os k c) ∧ Words w.heap.size wr (.slice ao la cap1) os ∧ Ext w wr) (fun _ i _ => la - (intOf i).toNat)
 case atStart => exact ⟨0, 0, limbs n, rfl, rfl, by omega, by omega, ⟨rfl, rfl, by omega, by simp [val]⟩, by simpa using HV.out, hE1⟩
 case round =>
   obtain ⟨k, c, os, rfl, rfl, hk, hc, HR, hW, hE⟩ := hrel
   have hol : os.length = la := by rw [HR.out.1]; exact HA.out
   have HO := hide hol
   clear hol
   by_cases hkl : k < la
   · obtain ⟨g, rfl, hg0, hg, cg, fg⟩ := hW.at k (by rw [HO.out]; exact hkl)
     obtain ⟨x, hx⟩ : ∃ x, os[k]'(by rw [HO.out]; exact hkl) = x := ⟨_, rfl⟩
     rw [hx] at cg
     have HX : Hid (x = (limbs n)[k]'(by rw [HA.out]; exact hkl)) := by rw [← hx]; exact (drop_get HR.out.2.1 (by rw [HO.out]; exact hkl) (by rw [HA.out]; exact hkl)).1
     clear hx
     by_cases hkb : k < lb
     · obtain ⟨gb, rfl, _, hgb, cb, _⟩ := KB.out.at k (by rw [HB.out]; exact hkb)
       have cb' : wr.cell? ⟨gb, k, none⟩ = _ := (hE.cell (p := ⟨gb, k, none⟩) hgb).trans cb
       obtain ⟨y, hy⟩ : ∃ y, (limbs m)[k]'(by rw [HB.out]; exact hkb) = y := ⟨_, rfl⟩
       rw [hy] at cb'
       clear cb
       have HY : Hid ((limbs m).getD k 0 = y) := by rw [← hy]; simp [Hid, List.getD, show k < (limbs m).length by rw [HB.out]; exact hkb]
       clear hy
       have hadd := add64_run x y c hc
       have HS : Hid (AddRel (limbs n) (limbs m) (os.set k ((x + y + c) % 18446744073709551616)) (k + 1) ((x + y + c) / 18446744073709551616)) := by
         have := HR.out.step (by rw [HA.out]; exact hkl) (limbs_w n) (limbs_w m)
         rw [← HX.out, HY.out] at this
         exact this
       have HW2 := hW.set HO.out k ((x + y + c) % 18446744073709551616) (by omega)
       rw [show (((x + y + c) % 18446744073709551616 : Nat) : Int) = ((x : Int) + y + c) % 18446744073709551616 by omega] at HW2
       have HW := hide HW2
       clear HW2
       go_wp2
       exact ⟨⟨k + 1, _, _, by go_num, by go_num, by omega, HS.out.2.2.1, HS, HW.out, ext_set hE hg0 _ _⟩, by simp [intOf]; omega⟩
     · have HY : Hid ((limbs m).getD k 0 = 0) := by simp [Hid, List.getD, show (limbs m).length ≤ k by rw [HB.out]; omega]
       have hadd := add64_run0 x c hc
       have HS : Hid (AddRel (limbs n) (limbs m) (os.set k ((x + 0 + c) % 18446744073709551616)) (k + 1) ((x + 0 + c) / 18446744073709551616)) := by
         have := HR.out.step (by rw [HA.out]; exact hkl) (limbs_w n) (limbs_w m)
         rw [← HX.out, HY.out] at this
         exact this
       have HW2 := hW.set HO.out k ((x + 0 + c) % 18446744073709551616) (by omega)
       rw [show (((x + 0 + c) % 18446744073709551616 : Nat) : Int) = ((x : Int) + c) % 18446744073709551616 by omega] at HW2
       have HW := hide HW2
       clear HW2
       go_wp2
       exact ⟨⟨k + 1, _, _, by go_num, by go_num, by omega, HS.out.2.2.1, HS, HW.out, ext_set hE hg0 _ _⟩, by simp [intOf]; omega⟩
   · obtain rfl : k = la := by omega
     have H1 : Hid (val (os ++ [c]) = n + m) := by
       have h1 := HR.out
       rw [show k = (limbs n).length from HA.out.symm] at h1
       have := h1.done (by rw [HA.out, HB.out]; omega)
       rwa [val_limbs, val_limbs] at this
     have H2 := hide (words_one wr.heap.size wr c wr.heap.size rfl (Nat.le_refl _) (by omega))
     have hE2 := hide (ext_alloc wr (.cells #[.int .u64 (c : Int)] 22))
     go_wp2_with (first
       | (at_builtin; refine append_words rfl (.tmp 46) (.tmp 48) rfl w.heap.size wr.heap.size _ _ os [c] rfl rfl (hW.ext hE2.out) H2.out (Nat.le_trans hE.size hE2.out.size) (by rw [HO.out]; simp; omega) w (hE.trans hE2.out) (Nat.le_refl _) ?_; intro v2 w2 hv2 hE3)
       | (go_at_call 48; refine (trim_any _ _ _ _ hv2).mono ?_; rintro e w' ⟨v3, rfl, hv3, rfl⟩))
     go_ret
     exact ⟨_, rfl, by rw [← H1.out]; exact hv3.base hB, hE3⟩
theorem ref_add (B C D : Nat) (u v : Value) (n m : Nat) (w : World) (h : Words C w u (limbs n)) (k : Words D w v (limbs m)) (hB : B ≤ w.heap.size) (hn : (limbs n).length ≤ 1000) (hm : (limbs m).length ≤ 1000) :
   Calls Try.prog 32 #[u, v] w (NewWords B (n + m) w) := by
 by_cases hl : (limbs n).length < (limbs m).length
 · rw [Nat.add_comm]; exact add_sw B D C v u m n w k h hB hm hn hl
 · exact add_any B C D u v n m w h k hB hn hm hl
open Go Go.RowKit
def SubRel (p q os : List Nat) (k c : Nat) : Prop := os.length = p.length ∧ os.drop k = p.drop k ∧ c ≤ 1 ∧ val (os.take k) + val (q.take k) = val (p.take k) + 18446744073709551616 ^ k * c
theorem SubRel.step {p q os : List Nat} {k c : Nat} (h : SubRel p q os k c) (hk : k < p.length) (hp : W64 p) (hq : W64 q) :
   SubRel p q (os.set k ((p[k] + 18446744073709551616 - q.getD k 0 - c) % 18446744073709551616)) (k + 1) (if p[k] < q.getD k 0 + c then 1 else 0) := by
 obtain ⟨h1, h2, h3, h4⟩ := h
 have hx := w64_get hp k hk
 have hy : q.getD k 0 < 18446744073709551616 := by
   by_cases hkq : k < q.length
   · have := w64_get hq k hkq; simp [List.getD, hkq]; exact this
   · simp [List.getD, show q.length ≤ k by omega]
 refine ⟨by simpa using h1, by rw [drop_set]; exact (drop_get h2 (by omega) hk).2, by split <;> omega, ?_⟩
 rw [val_set_take _ _ _ (by omega), val_take_succ p k hk, val_take_getD q k, Nat.pow_succ]
 generalize p[k] = x at *
 generalize q.getD k 0 = y at *
 obtain ⟨r, hr⟩ : ∃ r, (x + 18446744073709551616 - y - c) % 18446744073709551616 = r := ⟨_, rfl⟩
 rw [hr]
 split
 · have e : r + y + c = x + 18446744073709551616 := by omega
   grind
 · have e : r + y + c = x := by omega
   grind
theorem SubRel.done {p q os : List Nat} {c : Nat} (h : SubRel p q os p.length c) (hq : q.length ≤ p.length) (ho : W64 os) (hle : val q ≤ val p) : val os = val p - val q := by
 obtain ⟨h1, _, h3, h4⟩ := h
 rw [List.take_of_length_le (by omega), List.take_length, List.take_of_length_le hq] at h4
 have h5 := val_lt os ho
 rw [h1] at h5
 have : c = 0 ∨ c = 1 := by omega
 rcases this with rfl | rfl
 · simp at h4; omega
 · simp at h4; omega
theorem sub64_run0 (x c : Nat) (hc : c ≤ 1) (w : World) : (callFunc 50 #[.int .u64 x, .int .u64 0, .int .u64 c]).run Try.prog w =
     .ok (.value (.tuple #[.int .u64 (((x + 18446744073709551616 - 0 - c) % 18446744073709551616 : Nat) : Int), .int .u64 ((if x < 0 + c then 1 else 0 : Nat) : Int)])) w := sub64_run x 0 c hc w
theorem ref_sub (B C D : Nat) (u v : Value) (n m : Nat) (w : World) (h : Words C w u (limbs n)) (k : Words D w v (limbs m)) (hB : B ≤ w.heap.size) (hn : (limbs n).length ≤ 1000) (hm : (limbs m).length ≤ 1000) (hmn : m ≤ n) :
   Calls Try.prog 34 #[u, v] w (NewWords B (n - m) w) := by
 obtain ⟨la, hla⟩ : ∃ la, (limbs n).length = la := ⟨_, rfl⟩
 obtain ⟨lb, hlb⟩ : ∃ lb, (limbs m).length = lb := ⟨_, rfl⟩
 obtain ⟨a, ca, rfl, a1, a2, _⟩ := h.shape la hla
 obtain ⟨b, cb, rfl, b1, b2, _⟩ := k.shape lb hlb
 have hlt : ¬ la < lb := fun e => by have := len_lt (n := n) (m := m) (by omega); omega
 rw [hla] at hn
 rw [hlb] at hm
 have HA := hide hla
 have HB := hide hlb
 have KA := hide h
 have KB := hide k
 have HE := hide (words_empty w.heap.size w w.heap.size rfl (Nat.le_refl _))
 clear hla hlb h k
 have hE0 := hide (ext_alloc w (.cells #[] 22))
 have hS := hide (Nat.le_succ w.heap.size)
 go_enter Try.func34, Try.ntmps34
 go_wp2_with (at_builtin; refine append_words rfl (.tmp 9) (.tmp 10) rfl w.heap.size C _ _ [] (limbs n) rfl rfl HE.out (KA.out.ext hE0.out) (by simp) (by rw [HA.out]; simp; omega) w hE0.out (Nat.le_refl _) ?_; intro v1 w1 hv1 hE1)
 have HV := hide hv1
 obtain ⟨ao, cap1, rfl, _, c2, _⟩ := hv1.shape la (by simpa using HA.out)
 clear hv1
 go_loopw [6, 7] (fun t i wr => ∃ (k c : Nat) (os : List Nat), i = .int .i64 k ∧ t = .int .u64 c ∧ k ≤ la ∧ c ≤ 1 ∧ Hid (SubRel (limbs n) (limbs m) os k c) ∧ Words w.heap.size wr (.slice ao la cap1) os ∧ Ext w wr) (fun _ i _ => la - (intOf i).toNat)
 case atStart => exact ⟨0, 0, limbs n, rfl, rfl, by omega, by omega, ⟨rfl, rfl, by omega, by simp [val]⟩, by simpa using HV.out, hE1⟩
 case round =>
   obtain ⟨k, c, os, rfl, rfl, hk, hc, HR, hW, hE⟩ := hrel
   have hol : os.length = la := by rw [HR.out.1]; exact HA.out
   have HO := hide hol
   clear hol
   by_cases hkl : k < la
   · obtain ⟨g, rfl, hg0, hg, cg, fg⟩ := hW.at k (by rw [HO.out]; exact hkl)
     obtain ⟨x, hx⟩ : ∃ x, os[k]'(by rw [HO.out]; exact hkl) = x := ⟨_, rfl⟩
     rw [hx] at cg
     have HX : Hid (x = (limbs n)[k]'(by rw [HA.out]; exact hkl)) := by rw [← hx]; exact (drop_get HR.out.2.1 (by rw [HO.out]; exact hkl) (by rw [HA.out]; exact hkl)).1
     clear hx
     by_cases hkb : k < lb
     · obtain ⟨gb, rfl, _, hgb, cb, _⟩ := KB.out.at k (by rw [HB.out]; exact hkb)
       have cb' : wr.cell? ⟨gb, k, none⟩ = _ := (hE.cell (p := ⟨gb, k, none⟩) hgb).trans cb
       obtain ⟨y, hy⟩ : ∃ y, (limbs m)[k]'(by rw [HB.out]; exact hkb) = y := ⟨_, rfl⟩
       rw [hy] at cb'
       clear cb
       have HY : Hid ((limbs m).getD k 0 = y) := by rw [← hy]; simp [Hid, List.getD, show k < (limbs m).length by rw [HB.out]; exact hkb]
       clear hy
       have hadd := sub64_run x y c hc
       have HS : Hid (SubRel (limbs n) (limbs m) (os.set k ((x + 18446744073709551616 - y - c) % 18446744073709551616)) (k + 1) (if x < y + c then 1 else 0)) := by
         have := HR.out.step (by rw [HA.out]; exact hkl) (limbs_w n) (limbs_w m)
         rw [← HX.out, HY.out] at this
         exact this
       have HW2 := hW.set HO.out k ((x + 18446744073709551616 - y - c) % 18446744073709551616) (by omega)
       have HW := hide HW2
       clear HW2
       go_wp2
       exact ⟨⟨k + 1, _, _, by go_num, by (first | rfl | go_num | simp), by omega, HS.out.2.2.1, HS, HW.out, ext_set hE hg0 _ _⟩, by first | (simp [intOf]; done) | (simp [intOf]; omega)⟩
     · have HY : Hid ((limbs m).getD k 0 = 0) := by simp [Hid, List.getD, show (limbs m).length ≤ k by rw [HB.out]; omega]
       have hadd := sub64_run0 x c hc
       have HS : Hid (SubRel (limbs n) (limbs m) (os.set k ((x + 18446744073709551616 - 0 - c) % 18446744073709551616)) (k + 1) (if x < 0 + c then 1 else 0)) := by
         have := HR.out.step (by rw [HA.out]; exact hkl) (limbs_w n) (limbs_w m)
         rw [← HX.out, HY.out] at this
         exact this
       have HW2 := hW.set HO.out k ((x + 18446744073709551616 - 0 - c) % 18446744073709551616) (by omega)
       have HW := hide HW2
       clear HW2
       go_wp2
       exact ⟨⟨k + 1, _, _, by go_num, by (first | rfl | go_num | simp), by omega, HS.out.2.2.1, HS, HW.out, ext_set hE hg0 _ _⟩, by first | (simp [intOf]; done) | (simp [intOf]; omega)⟩
   · obtain rfl : k = la := by omega
     have H1 : Hid (val os = n - m) := by
       have h1 := HR.out
       rw [show k = (limbs n).length from HA.out.symm] at h1
       have := h1.done (by rw [HA.out, HB.out]; omega) hW.2 (by rw [val_limbs, val_limbs]; exact hmn)
       rwa [val_limbs, val_limbs] at this
     go_wp2_with (go_at_call 48; refine (trim_any _ _ _ _ hW).mono ?_; rintro e w' ⟨v3, rfl, hv3, rfl⟩)
     go_ret
     exact ⟨_, rfl, by rw [← H1.out]; exact hv3.base hB, hE⟩
open Go Go.RowKit
def wideV (s : Bool) (a b c d : Nat) : Value := .agg #[.bool s, .int .u64 (a : Int), .int .u64 (b : Int), .int .u64 (c : Int), .int .u64 (d : Int)]
def natV (s : Bool) (n : Nat) : Value := wideV s (n % 18446744073709551616) (n / 18446744073709551616 % 18446744073709551616) (n / 340282366920938463463374607431768211456 % 18446744073709551616) (n / 6277101735386680763835789423207666416102355444464034512896 % 18446744073709551616)
theorem cell_of_block {w : World} {b : Nat} {cur : Array Value} {e : TypeId} (h : w.heap[b]? = some (.cells cur e (0, 0))) (i : Nat) : w.cell? ⟨b, i, none⟩ = cur[i]? := by simp [World.cell?, h]
theorem free_of_block {w : World} {b : Nat} {cur : Array Value} {e : TypeId} (h : w.heap[b]? = some (.cells cur e (0, 0))) (i : Nat) : w.frozen? ⟨b, i, none⟩ = false := by simp [World.frozen?, h]
theorem Words.store_other {B : Nat} {w : World} {v : Value} {l : List Nat} (h : Words B w v l) {b : Nat} {cur : Array Value} (hb : w.heap[b]? = some (.cells cur 25 (0, 0))) (j : Nat) (u : Value) : Words B (w.setCell ⟨b, j, none⟩ u) v l := by
 refine ⟨?_, h.2⟩
 obtain ⟨h1, h2 | ⟨g, cap, c, hv, hg, hh, r⟩⟩ := h.1
 · exact ⟨h1, Or.inl h2⟩
 · have hne : g ≠ b := by rintro rfl; rw [hh] at hb; simp at hb
   exact ⟨h1, Or.inr ⟨g, cap, c, hv, hg, by rw [heap_setCell_other w ⟨b, j, none⟩ g u hne]; exact hh, r⟩⟩
theorem limbs_getD (n i : Nat) : (limbs n).getD i 0 = n / 18446744073709551616 ^ i % 18446744073709551616 := by
 induction i generalizing n with
 | zero =>
   by_cases h : n = 0
   · subst h; simp [limbs_zero]
   · rw [limbs_pos h]; simp
 | succ i ih =>
   by_cases h : n = 0
   · subst h; simp [limbs_zero]
   · rw [limbs_pos h, List.getD_cons_succ, ih, Nat.div_div_eq_div_mul, Nat.pow_succ, Nat.mul_comm]
def g4 (l : List Nat) (k i : Nat) : Int := if i < k then ((l.getD i 0 : Nat) : Int) else 0
def wcur (s : Bool) (l : List Nat) (k : Nat) : Array Value := #[.bool s, .int .u64 (g4 l k 0), .int .u64 (g4 l k 1), .int .u64 (g4 l k 2), .int .u64 (g4 l k 3)]
theorem wcur_all (s : Bool) (n : Nat) : (Value.agg (wcur s (limbs n) (limbs n).length)) = natV s n := by
 have hg : ∀ i, g4 (limbs n) (limbs n).length i = ((n / 18446744073709551616 ^ i % 18446744073709551616 : Nat) : Int) := by
   intro i
   unfold g4
   split
   · rw [limbs_getD]
   · rename_i h
     rw [← limbs_getD]; simp [List.getD, show (limbs n).length ≤ i by omega]
 unfold wcur natV wideV
 rw [hg 0, hg 1, hg 2, hg 3]
 simp
theorem wcur_set (s : Bool) (l : List Nat) (k : Nat) (hk : k < 4) (hl : k < l.length) : (wcur s l k).setIfInBounds (k + 1) (.int .u64 ((l[k] : Nat) : Int)) = wcur s l (k + 1) := by
 have hd : l.getD k 0 = l[k] := by simp [List.getD, hl]
 have : k = 0 ∨ k = 1 ∨ k = 2 ∨ k = 3 := by omega
 rcases this with rfl | rfl | rfl | rfl <;> simp [wcur, g4, ← hd, Array.setIfInBounds]
theorem wcur_zero (s : Bool) (l : List Nat) (k : Nat) (hk : k < 4) : (wcur s l k)[k + 1]? = some (.int .u64 0) := by
 have : k = 0 ∨ k = 1 ∨ k = 2 ∨ k = 3 := by omega
 rcases this with rfl | rfl | rfl | rfl <;> simp [wcur, g4]
theorem store_block {w : World} {b : Nat} {cur : Array Value} {e : TypeId} (h : w.heap[b]? = some (.cells cur e (0, 0))) (j : Nat) (u : Value) : (w.setCell ⟨b, j, none⟩ u).heap[b]? = some (.cells (cur.setIfInBounds j u) e (0, 0)) := heap_setCell_same w b j cur e u h
theorem two_blocks (w : World) (o p : Obj) : ((w.alloc o).alloc p).heap[w.heap.size]? = some o ∧ ((w.alloc o).alloc p).heap[w.heap.size + 1]? = some p := by
 have h1 := heap_alloc_new w o
 have h2 := heap_alloc_new (w.alloc o) p
 have h3 : (w.alloc o).heap.size = w.heap.size + 1 := by simp
 rw [h3] at h2
 exact ⟨(Below.heap_alloc (w.alloc o) p w.heap.size (by omega)).trans h1, h2⟩
def Wide4 (v : Value) (o : Bool) (w : World) (e : Ending) (w' : World) : Prop := e = .returned (.tuple #[v, .bool o]) ∧ Ext w w'
theorem wide_fits (C : Nat) (s : Bool) (v : Value) (l : List Nat) (n : Nat) (w : World) (h : Words C w v l) (hn : val l = n) (hf : (limbs n).length ≤ 4) :
   Calls Try.prog 31 #[.bool s, v] w (Wide4 (natV (s && decide (n ≠ 0)) n) true w) := by
 obtain ⟨m, hm⟩ : ∃ m, limbs n = m := ⟨_, rfl⟩
 obtain ⟨L, hL⟩ : ∃ L, m.length = L := ⟨_, rfl⟩
 rw [hm, hL] at hf
 have HN : Hid (limbs (val l) = m) := by rw [hn]; exact hm
 have HM := hide hm
 have HL := hide hL
 have hz : n = 0 ↔ L = 0 := by rw [← hL, ← hm, List.length_eq_zero_iff, limbs_nil]
 clear hm hn
 have hLs : L = 0 ∨ 0 < L := by omega
 cases s <;> rcases hLs with hL0 | hL0
 · subst hL0
   have hd : decide (n ≠ 0) = false := by simp; omega
   have HZ : Hid (natV (false && decide (n ≠ 0)) n = natV false n) := by rw [hd]; exact rfl
   clear hd hz hL
   have hb0 := hide (show ((w.alloc (.cells (wcur false [] 0) 25)).alloc (.cells (wcur false m 0) 25)).heap[w.heap.size]? = some (.cells (wcur false [] 0) 25 (0, 0)) from (two_blocks _ _ _).1)
   have hb1 := hide (show ((w.alloc (.cells (wcur false [] 0) 25)).alloc (.cells (wcur false m 0) 25)).heap[w.heap.size + 1]? = some (.cells (wcur false m 0) 25 (0, 0)) from (two_blocks _ _ _).2)
   have hx2 := hide ((ext_alloc w (.cells (wcur false [] 0) 25)).trans (ext_alloc _ (.cells (wcur false m 0) 25)))
   have HK : Hid (limbs n = m ∧ m.length = 0) := ⟨HM.out, HL.out⟩
   go_enter Try.func31, Try.ntmps31
   go_wp2_with (go_at_call 48; refine (trim_any _ _ _ _ (h.ext (ext_alloc w _))).mono ?_; rintro e w' ⟨v3, rfl, hv3, rfl⟩; rw [HN.out] at hv3; obtain ⟨a3, c3, rfl, h3a, h3b, _⟩ := hv3.shape 0 HL.out)
   go_loopw [7] (fun i wr => ∃ k : Nat, i = .int .i64 k ∧ k ≤ 0 ∧ Hid (wr.heap[w.heap.size]? = some (.cells (wcur false [] 0) 25 (0, 0))) ∧ Hid (wr.heap[w.heap.size + 1]? = some (.cells (wcur false m k) 25 (0, 0))) ∧ Words C wr (.slice a3 0 c3) m ∧ Ext w wr) (fun i _ => 0 - (intOf i).toNat)
   case atStart => exact ⟨0, rfl, by omega, hb0, hb1, hv3.ext (ext_alloc _ _), hx2.out⟩
   case round =>
     obtain ⟨k, rfl, hk, hc0, hc1, hW, hE⟩ := hrel
     · obtain rfl : k = 0 := by omega
       have d0 := cell_of_block hc0.out 0
       have d1 := cell_of_block hc0.out 1
       have d2 := cell_of_block hc0.out 2
       have d3 := cell_of_block hc0.out 3
       have d4 := cell_of_block hc0.out 4
       have f0 := free_of_block hc0.out 0
       have f1 := free_of_block hc0.out 1
       have f2 := free_of_block hc0.out 2
       have f3 := free_of_block hc0.out 3
       have f4 := free_of_block hc0.out 4
       have e0 := cell_of_block hc1.out 0
       have e1 := cell_of_block hc1.out 1
       have e2 := cell_of_block hc1.out 2
       have e3 := cell_of_block hc1.out 3
       have e4 := cell_of_block hc1.out 4
       simp only [wcur] at d0 d1 d2 d3 d4 e0 e1 e2 e3 e4
       go_wp2
       refine bodyPost_ret (v := .tuple #[.agg (wcur false m 0), .bool true]) (by simp [results, Try.results31, go_sem, d0, d1, d2, d3, d4, wcur]) rfl ⟨?_, ?_⟩
       · have e := HK.out
         rw [HZ.out, ← wcur_all, e.1, e.2]
       · exact ext_set (ext_set (ext_set (ext_set (ext_set hE (Nat.le_refl _) _ _) (Nat.le_refl _) _ _) (Nat.le_refl _) _ _) (Nat.le_refl _) _ _) (Nat.le_refl _) _ _
 · have hd : decide (n ≠ 0) = true := by simp; omega
   have HZ : Hid (natV (false && decide (n ≠ 0)) n = natV false n) := by rw [hd]; exact rfl
   clear hd hz hL
   have hb0 := hide (show ((w.alloc (.cells (wcur false [] 0) 25)).alloc (.cells (wcur false m 0) 25)).heap[w.heap.size]? = some (.cells (wcur false [] 0) 25 (0, 0)) from (two_blocks _ _ _).1)
   have hb1 := hide (show ((w.alloc (.cells (wcur false [] 0) 25)).alloc (.cells (wcur false m 0) 25)).heap[w.heap.size + 1]? = some (.cells (wcur false m 0) 25 (0, 0)) from (two_blocks _ _ _).2)
   have hx2 := hide ((ext_alloc w (.cells (wcur false [] 0) 25)).trans (ext_alloc _ (.cells (wcur false m 0) 25)))
   have HK : Hid (limbs n = m ∧ m.length = L) := ⟨HM.out, HL.out⟩
   go_enter Try.func31, Try.ntmps31
   go_wp2_with (go_at_call 48; refine (trim_any _ _ _ _ (h.ext (ext_alloc w _))).mono ?_; rintro e w' ⟨v3, rfl, hv3, rfl⟩; rw [HN.out] at hv3; obtain ⟨a3, c3, rfl, h3a, h3b, _⟩ := hv3.shape L HL.out)
   go_loopw [7] (fun i wr => ∃ k : Nat, i = .int .i64 k ∧ k ≤ L ∧ Hid (wr.heap[w.heap.size]? = some (.cells (wcur false [] 0) 25 (0, 0))) ∧ Hid (wr.heap[w.heap.size + 1]? = some (.cells (wcur false m k) 25 (0, 0))) ∧ Words C wr (.slice a3 L c3) m ∧ Ext w wr) (fun i _ => L - (intOf i).toNat)
   case atStart => exact ⟨0, rfl, by omega, hb0, hb1, hv3.ext (ext_alloc _ _), hx2.out⟩
   case round =>
     obtain ⟨k, rfl, hk, hc0, hc1, hW, hE⟩ := hrel
     by_cases hkl : k < L
     · obtain ⟨g, rfl, hg0, hg, cg, fg⟩ := hW.at k (by rw [HK.out.2]; exact hkl)
       have HS : Hid ((wcur false m k).setIfInBounds (k + 1) (.int .u64 ((m[k]'(by rw [HK.out.2]; exact hkl) : Nat) : Int)) = wcur false m (k + 1)) := wcur_set false m k (by omega) (by rw [HK.out.2]; exact hkl)
       obtain ⟨x, hx⟩ : ∃ x, m[k]'(by rw [HK.out.2]; exact hkl) = x := ⟨_, rfl⟩
       rw [hx] at cg HS
       clear hx
       have hfr := free_of_block hc1.out (k + 1)
       have hsz : 1 + k = k + 1 := by omega
       have hk4 : (k : Int) < 4 := by omega
       have hce : wr.cell? ⟨w.heap.size + 1, k + 1, none⟩ = some (.int .u64 0) := by rw [cell_of_block hc1.out, wcur_zero _ _ _ (by omega)]
       have H0 := hide (show (wr.setCell ⟨w.heap.size + 1, k + 1, none⟩ (.int .u64 (x : Int))).heap[w.heap.size]? = some (.cells (wcur false [] 0) 25 (0, 0)) from (heap_setCell_other wr ⟨w.heap.size + 1, k + 1, none⟩ w.heap.size _ (by simp)).trans hc0.out)
       have H1 : Hid ((wr.setCell ⟨w.heap.size + 1, k + 1, none⟩ (.int .u64 (x : Int))).heap[w.heap.size + 1]? = some (.cells (wcur false m (k + 1)) 25 (0, 0))) := by rw [← HS.out]; exact store_block hc1.out _ _
       have HW := hide (hW.store_other hc1.out (k + 1) (.int .u64 (x : Int)))
       have HE := hide (ext_set hE (g := w.heap.size + 1) (by omega) (k + 1) (.int .u64 (x : Int)))
       go_wp2
       exact ⟨⟨k + 1, by go_num, by omega, H0, H1, HW.out, HE.out⟩, by simp [intOf]; omega⟩
     · obtain rfl : k = L := by omega
       have d0 := cell_of_block hc0.out 0
       have d1 := cell_of_block hc0.out 1
       have d2 := cell_of_block hc0.out 2
       have d3 := cell_of_block hc0.out 3
       have d4 := cell_of_block hc0.out 4
       have f0 := free_of_block hc0.out 0
       have f1 := free_of_block hc0.out 1
       have f2 := free_of_block hc0.out 2
       have f3 := free_of_block hc0.out 3
       have f4 := free_of_block hc0.out 4
       have e0 := cell_of_block hc1.out 0
       have e1 := cell_of_block hc1.out 1
       have e2 := cell_of_block hc1.out 2
       have e3 := cell_of_block hc1.out 3
       have e4 := cell_of_block hc1.out 4
       simp only [wcur] at d0 d1 d2 d3 d4 e0 e1 e2 e3 e4
       go_wp2
       refine bodyPost_ret (v := .tuple #[.agg (wcur false m k), .bool true]) (by simp [results, Try.results31, go_sem, d0, d1, d2, d3, d4, wcur]) rfl ⟨?_, ?_⟩
       · have e := HK.out
         rw [HZ.out, ← wcur_all, e.1, e.2]
       · exact ext_set (ext_set (ext_set (ext_set (ext_set hE (Nat.le_refl _) _ _) (Nat.le_refl _) _ _) (Nat.le_refl _) _ _) (Nat.le_refl _) _ _) (Nat.le_refl _) _ _
 · subst hL0
   have hd : decide (n ≠ 0) = false := by simp; omega
   have HZ : Hid (natV (true && decide (n ≠ 0)) n = natV false n) := by rw [hd]; exact rfl
   clear hd hz hL
   have hb0 := hide (show ((w.alloc (.cells (wcur false [] 0) 25)).alloc (.cells (wcur false m 0) 25)).heap[w.heap.size]? = some (.cells (wcur false [] 0) 25 (0, 0)) from (two_blocks _ _ _).1)
   have hb1 := hide (show ((w.alloc (.cells (wcur false [] 0) 25)).alloc (.cells (wcur false m 0) 25)).heap[w.heap.size + 1]? = some (.cells (wcur false m 0) 25 (0, 0)) from (two_blocks _ _ _).2)
   have hx2 := hide ((ext_alloc w (.cells (wcur false [] 0) 25)).trans (ext_alloc _ (.cells (wcur false m 0) 25)))
   have HK : Hid (limbs n = m ∧ m.length = 0) := ⟨HM.out, HL.out⟩
   go_enter Try.func31, Try.ntmps31
   go_wp2_with (go_at_call 48; refine (trim_any _ _ _ _ (h.ext (ext_alloc w _))).mono ?_; rintro e w' ⟨v3, rfl, hv3, rfl⟩; rw [HN.out] at hv3; obtain ⟨a3, c3, rfl, h3a, h3b, _⟩ := hv3.shape 0 HL.out)
   go_loopw [7] (fun i wr => ∃ k : Nat, i = .int .i64 k ∧ k ≤ 0 ∧ Hid (wr.heap[w.heap.size]? = some (.cells (wcur false [] 0) 25 (0, 0))) ∧ Hid (wr.heap[w.heap.size + 1]? = some (.cells (wcur false m k) 25 (0, 0))) ∧ Words C wr (.slice a3 0 c3) m ∧ Ext w wr) (fun i _ => 0 - (intOf i).toNat)
   case atStart => exact ⟨0, rfl, by omega, hb0, hb1, hv3.ext (ext_alloc _ _), hx2.out⟩
   case round =>
     obtain ⟨k, rfl, hk, hc0, hc1, hW, hE⟩ := hrel
     · obtain rfl : k = 0 := by omega
       have d0 := cell_of_block hc0.out 0
       have d1 := cell_of_block hc0.out 1
       have d2 := cell_of_block hc0.out 2
       have d3 := cell_of_block hc0.out 3
       have d4 := cell_of_block hc0.out 4
       have f0 := free_of_block hc0.out 0
       have f1 := free_of_block hc0.out 1
       have f2 := free_of_block hc0.out 2
       have f3 := free_of_block hc0.out 3
       have f4 := free_of_block hc0.out 4
       have e0 := cell_of_block hc1.out 0
       have e1 := cell_of_block hc1.out 1
       have e2 := cell_of_block hc1.out 2
       have e3 := cell_of_block hc1.out 3
       have e4 := cell_of_block hc1.out 4
       simp only [wcur] at d0 d1 d2 d3 d4 e0 e1 e2 e3 e4
       go_wp2
       refine bodyPost_ret (v := .tuple #[.agg (wcur false m 0), .bool true]) (by simp [results, Try.results31, go_sem, d0, d1, d2, d3, d4, wcur]) rfl ⟨?_, ?_⟩
       · have e := HK.out
         rw [HZ.out, ← wcur_all, e.1, e.2]
       · exact ext_set (ext_set (ext_set (ext_set (ext_set hE (Nat.le_refl _) _ _) (Nat.le_refl _) _ _) (Nat.le_refl _) _ _) (Nat.le_refl _) _ _) (Nat.le_refl _) _ _
 · have hd : decide (n ≠ 0) = true := by simp; omega
   have HZ : Hid (natV (true && decide (n ≠ 0)) n = natV true n) := by rw [hd]; exact rfl
   clear hd hz hL
   have hb0 := hide (show ((w.alloc (.cells (wcur false [] 0) 25)).alloc (.cells (wcur true m 0) 25)).heap[w.heap.size]? = some (.cells (wcur false [] 0) 25 (0, 0)) from (two_blocks _ _ _).1)
   have hb1 := hide (show ((w.alloc (.cells (wcur false [] 0) 25)).alloc (.cells (wcur true m 0) 25)).heap[w.heap.size + 1]? = some (.cells (wcur true m 0) 25 (0, 0)) from (two_blocks _ _ _).2)
   have hx2 := hide ((ext_alloc w (.cells (wcur false [] 0) 25)).trans (ext_alloc _ (.cells (wcur true m 0) 25)))
   have HK : Hid (limbs n = m ∧ m.length = L) := ⟨HM.out, HL.out⟩
   go_enter Try.func31, Try.ntmps31
   go_wp2_with (go_at_call 48; refine (trim_any _ _ _ _ (h.ext (ext_alloc w _))).mono ?_; rintro e w' ⟨v3, rfl, hv3, rfl⟩; rw [HN.out] at hv3; obtain ⟨a3, c3, rfl, h3a, h3b, _⟩ := hv3.shape L HL.out)
   go_loopw [7] (fun i wr => ∃ k : Nat, i = .int .i64 k ∧ k ≤ L ∧ Hid (wr.heap[w.heap.size]? = some (.cells (wcur false [] 0) 25 (0, 0))) ∧ Hid (wr.heap[w.heap.size + 1]? = some (.cells (wcur true m k) 25 (0, 0))) ∧ Words C wr (.slice a3 L c3) m ∧ Ext w wr) (fun i _ => L - (intOf i).toNat)
   case atStart => exact ⟨0, rfl, by omega, hb0, hb1, hv3.ext (ext_alloc _ _), hx2.out⟩
   case round =>
     obtain ⟨k, rfl, hk, hc0, hc1, hW, hE⟩ := hrel
     by_cases hkl : k < L
     · obtain ⟨g, rfl, hg0, hg, cg, fg⟩ := hW.at k (by rw [HK.out.2]; exact hkl)
       have HS : Hid ((wcur true m k).setIfInBounds (k + 1) (.int .u64 ((m[k]'(by rw [HK.out.2]; exact hkl) : Nat) : Int)) = wcur true m (k + 1)) := wcur_set true m k (by omega) (by rw [HK.out.2]; exact hkl)
       obtain ⟨x, hx⟩ : ∃ x, m[k]'(by rw [HK.out.2]; exact hkl) = x := ⟨_, rfl⟩
       rw [hx] at cg HS
       clear hx
       have hfr := free_of_block hc1.out (k + 1)
       have hsz : 1 + k = k + 1 := by omega
       have hk4 : (k : Int) < 4 := by omega
       have hce : wr.cell? ⟨w.heap.size + 1, k + 1, none⟩ = some (.int .u64 0) := by rw [cell_of_block hc1.out, wcur_zero _ _ _ (by omega)]
       have H0 := hide (show (wr.setCell ⟨w.heap.size + 1, k + 1, none⟩ (.int .u64 (x : Int))).heap[w.heap.size]? = some (.cells (wcur false [] 0) 25 (0, 0)) from (heap_setCell_other wr ⟨w.heap.size + 1, k + 1, none⟩ w.heap.size _ (by simp)).trans hc0.out)
       have H1 : Hid ((wr.setCell ⟨w.heap.size + 1, k + 1, none⟩ (.int .u64 (x : Int))).heap[w.heap.size + 1]? = some (.cells (wcur true m (k + 1)) 25 (0, 0))) := by rw [← HS.out]; exact store_block hc1.out _ _
       have HW := hide (hW.store_other hc1.out (k + 1) (.int .u64 (x : Int)))
       have HE := hide (ext_set hE (g := w.heap.size + 1) (by omega) (k + 1) (.int .u64 (x : Int)))
       go_wp2
       exact ⟨⟨k + 1, by go_num, by omega, H0, H1, HW.out, HE.out⟩, by simp [intOf]; omega⟩
     · obtain rfl : k = L := by omega
       have d0 := cell_of_block hc0.out 0
       have d1 := cell_of_block hc0.out 1
       have d2 := cell_of_block hc0.out 2
       have d3 := cell_of_block hc0.out 3
       have d4 := cell_of_block hc0.out 4
       have f0 := free_of_block hc0.out 0
       have f1 := free_of_block hc0.out 1
       have f2 := free_of_block hc0.out 2
       have f3 := free_of_block hc0.out 3
       have f4 := free_of_block hc0.out 4
       have e0 := cell_of_block hc1.out 0
       have e1 := cell_of_block hc1.out 1
       have e2 := cell_of_block hc1.out 2
       have e3 := cell_of_block hc1.out 3
       have e4 := cell_of_block hc1.out 4
       simp only [wcur] at d0 d1 d2 d3 d4 e0 e1 e2 e3 e4
       go_wp2
       refine bodyPost_ret (v := .tuple #[.agg (wcur true m k), .bool true]) (by simp [results, Try.results31, go_sem, d0, d1, d2, d3, d4, wcur]) rfl ⟨?_, ?_⟩
       · have e := HK.out
         rw [HZ.out, ← wcur_all, e.1, e.2]
       · exact ext_set (ext_set (ext_set (ext_set (ext_set hE (Nat.le_refl _) _ _) (Nat.le_refl _) _ _) (Nat.le_refl _) _ _) (Nat.le_refl _) _ _) (Nat.le_refl _) _ _
theorem wide_over (C : Nat) (s : Bool) (v : Value) (l : List Nat) (n : Nat) (w : World) (h : Words C w v l) (hn : val l = n) (hf : 4 < (limbs n).length) :
   Calls Try.prog 31 #[.bool s, v] w (Wide4 (natV false 0) false w) := by
 obtain ⟨m, hm⟩ : ∃ m, limbs n = m := ⟨_, rfl⟩
 obtain ⟨L, hL⟩ : ∃ L, m.length = L := ⟨_, rfl⟩
 rw [hm, hL] at hf
 have HN : Hid (limbs (val l) = m) := by rw [hn]; exact hm
 have HL := hide hL
 have HX := hide (ext_alloc w (.cells #[.bool false, .int .u64 0, .int .u64 0, .int .u64 0, .int .u64 0] 25))
 clear hm hn hL
 go_enter Try.func31, Try.ntmps31
 go_wp2_with (go_at_call 48; refine (trim_any _ _ _ _ (h.ext (ext_alloc w _))).mono ?_; rintro e w' ⟨v3, rfl, hv3, rfl⟩; rw [HN.out] at hv3; obtain ⟨a3, c3, rfl, h3a, h3b, _⟩ := hv3.shape L HL.out)
 exact bodyPost_ret (v := .tuple #[natV false 0, .bool false]) (by simp [results, Try.results31, go_sem, natV, wideV]) rfl ⟨rfl, HX.out⟩
def IsW (s : Bool) (a b c d : Nat) (z : Int) : Prop := a < 18446744073709551616 ∧ b < 18446744073709551616 ∧ c < 18446744073709551616 ∧ d < 18446744073709551616 ∧ z = if s then -(mag4 a b c d : Int) else (mag4 a b c d : Int)
def IsC (s : Bool) (a b c d : Nat) (z : Int) : Prop := IsW s a b c d z ∧ (s = true → z ≠ 0)
theorem IsC.uniq {s s' : Bool} {a b c d a' b' c' d' : Nat} {z : Int} (h : IsC s a b c d z) (k : IsC s' a' b' c' d' z) : s = s' ∧ a = a' ∧ b = b' ∧ c = c' ∧ d = d' := by
 obtain ⟨⟨h1, h2, h3, h4, h5⟩, h6⟩ := h
 obtain ⟨⟨k1, k2, k3, k4, k5⟩, k6⟩ := k
 simp only [mag4, val] at h5 k5
 cases s <;> cases s' <;> simp at * <;> omega
theorem natV_isC (s : Bool) (n : Nat) (h : (limbs n).length ≤ 4) : ∃ a b c d : Nat, natV (s && decide (n ≠ 0)) n = .agg #[.bool (s && decide (n ≠ 0)), .int .u64 (a : Int), .int .u64 (b : Int), .int .u64 (c : Int), .int .u64 (d : Int)] ∧ IsC (s && decide (n ≠ 0)) a b c d (if s then -(n : Int) else n) := by
 have h4 := limbs_len_le.1 h
 refine ⟨_, _, _, _, rfl, ⟨Nat.mod_lt _ (by omega), Nat.mod_lt _ (by omega), Nat.mod_lt _ (by omega), Nat.mod_lt _ (by omega), ?_⟩, ?_⟩
 · simp only [mag4, val]
   by_cases hn : n = 0
   · subst hn; simp
   · cases s <;> simp [hn] <;> omega
 · cases s <;> simp
def WideRet (z : Int) (w : World) (e : Ending) (w' : World) : Prop := ∃ (s : Bool) (a b c d : Nat) (o : Bool), e = .returned (.tuple #[.agg #[.bool s, .int .u64 (a : Int), .int .u64 (b : Int), .int .u64 (c : Int), .int .u64 (d : Int)], .bool o]) ∧
 o = decide (z.natAbs < 115792089237316195423570985008687907853269984665640564039457584007913129639936) ∧ IsC s a b c d (if z.natAbs < 115792089237316195423570985008687907853269984665640564039457584007913129639936 then z else 0) ∧ Ext w w'
theorem ref_wide (C : Nat) (s : Bool) (v : Value) (l : List Nat) (w : World) (h : Words C w v l) :
   Calls Try.prog 31 #[.bool s, v] w (WideRet (if s then -(val l : Int) else (val l : Int)) w) := by
 have hz : (if s then -(val l : Int) else (val l : Int)).natAbs = val l := by cases s <;> simp
 by_cases hf : (limbs (val l)).length ≤ 4
 · have h4 : val l < 115792089237316195423570985008687907853269984665640564039457584007913129639936 := limbs_len_le.1 hf
   obtain ⟨a, b, c, d, e, hc⟩ := natV_isC s (val l) hf
   refine (wide_fits C s v l (val l) w h rfl hf).mono ?_
   rintro e' w' ⟨rfl, hE⟩
   refine ⟨_, a, b, c, d, true, by rw [e], by rw [hz]; simp [h4], ?_, hE⟩
   rw [hz, if_pos h4]; exact hc
 · have h4 : ¬ val l < 115792089237316195423570985008687907853269984665640564039457584007913129639936 := fun e => hf (limbs_len_le.2 e)
   refine (wide_over C s v l (val l) w h rfl (by omega)).mono ?_
   rintro e' w' ⟨rfl, hE⟩
   refine ⟨false, 0, 0, 0, 0, false, by simp [natV, wideV], by rw [hz]; simp [h4], ?_, hE⟩
   rw [hz, if_neg h4]; exact ⟨⟨by omega, by omega, by omega, by omega, by simp [mag4, val]⟩, by simp⟩
open Go Go.RowKit
theorem rbb {b b' : Bool} (h2 : b = b') : Ending.returned (Value.bool b) = .returned (.bool b') := by rw [h2]
def BoolRet (b : Bool) (w : World) (e : Ending) (w' : World) : Prop := e = .returned (.bool b) ∧ Ext w w'
theorem mag_lt {a b c d : Nat} (ha : a < 18446744073709551616) (hb : b < 18446744073709551616) (hc : c < 18446744073709551616) (hd : d < 18446744073709551616) : mag4 a b c d < 115792089237316195423570985008687907853269984665640564039457584007913129639936 := by
 simp only [mag4, val]; omega
theorem len_pos (n : Nat) : 0 < (limbs n).length ↔ n ≠ 0 := by
 have := @limbs_nil n
 rw [← List.length_eq_zero_iff] at this; omega
theorem ref_valid (s : Bool) (a b c d : Nat) (z : Int) (w : World) (h : IsW s a b c d z) :
   Calls Try.prog 47 #[.agg #[.bool s, .int .u64 (a : Int), .int .u64 (b : Int), .int .u64 (c : Int), .int .u64 (d : Int)]] w (BoolRet (!s || decide (z ≠ 0)) w) := by
 obtain ⟨ha, hb, hc, hd, hz⟩ := h
 obtain ⟨n, hn⟩ : ∃ n, mag4 a b c d = n := ⟨_, rfl⟩
 have HX := hide (ext_alloc w (.cells #[.bool s, .int .u64 (a : Int), .int .u64 (b : Int), .int .u64 (c : Int), .int .u64 (d : Int)] 25))
 have HN := hide hn
 obtain ⟨L, hL⟩ : ∃ L, (limbs n).length = L := ⟨_, rfl⟩
 have HL := hide hL
 have hp := len_pos n
 rw [hL] at hp
 rw [hn] at hz
 cases s
 · have HB : Hid ((!false || decide (z ≠ 0)) = true) := by simp [Hid]
   clear hp hz hn hL
   go_enter Try.func47, Try.ntmps47
   go_wp2
   go_ret
   exact ⟨rbb HB.out.symm, HX.out⟩
 · have HB : Hid ((!true || decide (z ≠ 0)) = decide (0 < L)) := by
     simp only [if_true] at hz
     have e : decide (z ≠ 0) = decide (0 < L) := by rw [decide_eq_decide]; omega
     rw [e]; exact rfl
   clear hp hz hn hL
   go_enter Try.func47, Try.ntmps47
   go_wp2_with (go_at_call 30; refine (of_any w.heap.size true a b c d _ (Nat.le_trans (Nat.le_refl _) HX.out.size) ha hb hc hd).mono ?_; rintro e w' ⟨v, rfl, hv, hE⟩; rw [HN.out] at hv; obtain ⟨a3, c3, rfl, h3a, h3b, _⟩ := hv.shape L HL.out)
   go_ret
   exact ⟨rbb (by first | exact HB.out.symm | (rw [HB.out]; simp)), HX.out.trans hE⟩
theorem two_kept {w w' : World} {o p : Obj} (h : Ext ((w.alloc o).alloc p) w') : w'.heap[w.heap.size]? = some o ∧ w'.heap[w.heap.size + 1]? = some p := by
 obtain ⟨h1, h2⟩ := two_blocks w o p
 have hs : ((w.alloc o).alloc p).heap.size = w.heap.size + 1 + 1 := by simp
 exact ⟨(h.block _ (by omega)).trans h1, (h.block _ (by omega)).trans h2⟩
theorem five_cells {w : World} {b : Nat} {v0 v1 v2 v3 v4 : Value} {e : TypeId} (h : w.heap[b]? = some (.cells #[v0, v1, v2, v3, v4] e (0, 0))) :
   w.cell? ⟨b, 0, none⟩ = some v0 ∧ w.cell? ⟨b, 1, none⟩ = some v1 ∧ w.cell? ⟨b, 2, none⟩ = some v2 ∧ w.cell? ⟨b, 3, none⟩ = some v3 ∧ w.cell? ⟨b, 4, none⟩ = some v4 ∧
   w.frozen? ⟨b, 0, none⟩ = false ∧ w.frozen? ⟨b, 1, none⟩ = false ∧ w.frozen? ⟨b, 2, none⟩ = false ∧ w.frozen? ⟨b, 3, none⟩ = false ∧ w.frozen? ⟨b, 4, none⟩ = false := by
 refine ⟨?_, ?_, ?_, ?_, ?_, free_of_block h 0, free_of_block h 1, free_of_block h 2, free_of_block h 3, free_of_block h 4⟩ <;> (rw [cell_of_block h]; rfl)
theorem ext_five {W w : World} (h : Ext W w) {b : Nat} (hb : W.heap.size ≤ b) (u0 u1 u2 u3 u4 : Value) : Ext W (((((w.setCell ⟨b, 0, none⟩ u0).setCell ⟨b, 1, none⟩ u1).setCell ⟨b, 2, none⟩ u2).setCell ⟨b, 3, none⟩ u3).setCell ⟨b, 4, none⟩ u4) :=
 ext_set (ext_set (ext_set (ext_set (ext_set h hb _ _) hb _ _) hb _ _) hb _ _) hb _ _
def WideOnly (z : Int) (w : World) (e : Ending) (w' : World) : Prop := ∃ (s : Bool) (a b c d : Nat), e = .returned (.agg #[.bool s, .int .u64 (a : Int), .int .u64 (b : Int), .int .u64 (c : Int), .int .u64 (d : Int)]) ∧ IsC s a b c d z ∧ Ext w w'
theorem ref_clean (s : Bool) (a b c d : Nat) (z : Int) (w : World) (h : IsW s a b c d z) :
   Calls Try.prog 29 #[.agg #[.bool s, .int .u64 (a : Int), .int .u64 (b : Int), .int .u64 (c : Int), .int .u64 (d : Int)]] w (WideOnly z w) := by
 have HX := hide (ext_alloc w (.cells #[.bool s, .int .u64 (a : Int), .int .u64 (b : Int), .int .u64 (c : Int), .int .u64 (d : Int)] 25))
 have HX2 := hide ((ext_alloc w (.cells #[.bool s, .int .u64 (a : Int), .int .u64 (b : Int), .int .u64 (c : Int), .int .u64 (d : Int)] 25)).trans (ext_alloc _ (.cells #[.bool false, .int .u64 0, .int .u64 0, .int .u64 0, .int .u64 0] 25)))
 by_cases hv : (!s || decide (z ≠ 0)) = true
 · have HV := hide hv
   have HC : Hid (IsC s a b c d z) := ⟨h, fun e => by subst e; simpa using hv⟩
   clear hv
   have HH := hide h
   clear h
   go_enter Try.func29, Try.ntmps29
   go_wp2_with (go_at_call 47; refine (ref_valid s a b c d z _ HH.out).mono ?_; rintro e w' ⟨rfl, hE⟩; rw [HV.out]; obtain ⟨q0, q1⟩ := two_kept hE; obtain ⟨c0, c1, c2, c3, c4, f0, f1, f2, f3, f4⟩ := five_cells q0; obtain ⟨d0, d1, d2, d3, d4, g0, g1, g2, g3, g4⟩ := five_cells q1; have HE := hide hE; clear q0 q1 hE)
   exact bodyPost_ret (v := .agg #[.bool s, .int .u64 (a : Int), .int .u64 (b : Int), .int .u64 (c : Int), .int .u64 (d : Int)]) (by simp [results, Try.results29, go_sem, d0, d1, d2, d3, d4]) rfl ⟨s, a, b, c, d, rfl, HC.out, ext_five (HX2.out.trans HE.out) (by simp) _ _ _ _ _⟩
 · have HV : Hid ((!s || decide (z ≠ 0)) = false) := by unfold Hid; simpa using hv
   have HC : Hid (IsC false 0 0 0 0 z) := by
     have : z = 0 := by simp at hv; exact hv.2
     subst this
     exact ⟨⟨by omega, by omega, by omega, by omega, by simp [mag4, val]⟩, by simp⟩
   clear hv
   have HH := hide h
   clear h
   go_enter Try.func29, Try.ntmps29
   go_wp2_with (go_at_call 47; refine (ref_valid s a b c d z _ HH.out).mono ?_; rintro e w' ⟨rfl, hE⟩; rw [HV.out]; obtain ⟨q0, q1⟩ := two_kept hE; obtain ⟨d0, d1, d2, d3, d4, g0, g1, g2, g3, g4⟩ := five_cells q1; have HE := hide hE; clear q0 q1 hE)
   exact bodyPost_ret (v := .agg #[.bool false, .int .u64 ((0 : Nat) : Int), .int .u64 ((0 : Nat) : Int), .int .u64 ((0 : Nat) : Int), .int .u64 ((0 : Nat) : Int)]) (by simp [results, Try.results29, go_sem, d0, d1, d2, d3, d4]) rfl ⟨false, 0, 0, 0, 0, rfl, HC.out, ext_five (HX2.out.trans HE.out) (by simp) _ _ _ _ _⟩
open Go Go.RowKit
def IntRet (k : IntKind) (x : Int) (w : World) (e : Ending) (w' : World) : Prop := e = .returned (.int k x) ∧ Ext w w'
theorem one_kept {w w' : World} {o : Obj} (h : Ext (w.alloc o) w') : w'.heap[w.heap.size]? = some o := by
 have hs : (w.alloc o).heap.size = w.heap.size + 1 := by simp
 exact (h.block _ (by omega)).trans (heap_alloc_new w o)
theorem ref_sign (s : Bool) (a b c d : Nat) (z : Int) (w : World) (h : IsW s a b c d z) :
   Calls Try.prog 45 #[.agg #[.bool s, .int .u64 (a : Int), .int .u64 (b : Int), .int .u64 (c : Int), .int .u64 (d : Int)]] w (IntRet .i64 z.sign w) := by
 obtain ⟨ha, hb, hc, hd, hz⟩ := h
 obtain ⟨n, hn⟩ : ∃ n, mag4 a b c d = n := ⟨_, rfl⟩
 have HX := hide (ext_alloc w (.cells #[.bool s, .int .u64 (a : Int), .int .u64 (b : Int), .int .u64 (c : Int), .int .u64 (d : Int)] 25))
 have HN := hide hn
 obtain ⟨L, hL⟩ : ∃ L, (limbs n).length = L := ⟨_, rfl⟩
 have HL := hide hL
 have hp := len_pos n
 rw [hL] at hp
 rw [hn] at hz
 have hS : L = 0 ∧ z = 0 ∨ 0 < L ∧ s = true ∧ z < 0 ∨ 0 < L ∧ s = false ∧ 0 < z := by cases s <;> simp at hz <;> simp <;> omega
 clear hz hp hL hn
 rcases hS with ⟨rfl, h1⟩ | ⟨h0, rfl, h1⟩ | ⟨h0, rfl, h1⟩
 · have HS : Hid (z.sign = 0) := by subst h1; rfl
   clear h1
   go_enter Try.func45, Try.ntmps45
   go_wp2_with (go_at_call 30; refine (of_any w.heap.size s a b c d _ (Nat.le_trans (Nat.le_refl _) HX.out.size) ha hb hc hd).mono ?_; rintro e w' ⟨v, rfl, hv, hE⟩; rw [HN.out] at hv; obtain ⟨a3, c3, rfl, h3a, h3b, _⟩ := hv.shape 0 HL.out)
   go_ret
   exact ⟨rb1 HS.out.symm, HX.out.trans hE⟩
 · have HS : Hid (z.sign = -1) := Int.sign_eq_neg_one_of_neg h1
   clear h1
   go_enter Try.func45, Try.ntmps45
   go_wp2_with (go_at_call 30; refine (of_any w.heap.size true a b c d _ (Nat.le_trans (Nat.le_refl _) HX.out.size) ha hb hc hd).mono ?_; rintro e w' ⟨v, rfl, hv, hE⟩; rw [HN.out] at hv; obtain ⟨a3, c3, rfl, h3a, h3b, _⟩ := hv.shape L HL.out; obtain ⟨d0, _⟩ := five_cells (one_kept hE))
   go_ret
   exact ⟨rb1 HS.out.symm, HX.out.trans hE⟩
 · have HS : Hid (z.sign = 1) := Int.sign_eq_one_of_pos h1
   clear h1
   go_enter Try.func45, Try.ntmps45
   go_wp2_with (go_at_call 30; refine (of_any w.heap.size false a b c d _ (Nat.le_trans (Nat.le_refl _) HX.out.size) ha hb hc hd).mono ?_; rintro e w' ⟨v, rfl, hv, hE⟩; rw [HN.out] at hv; obtain ⟨a3, c3, rfl, h3a, h3b, _⟩ := hv.shape L HL.out; obtain ⟨d0, _⟩ := five_cells (one_kept hE))
   go_ret
   exact ⟨rb1 HS.out.symm, HX.out.trans hE⟩
theorem ref_ofi (z : Int) (w : World) (h1 : -9223372036854775808 ≤ z) (h2 : z ≤ 9223372036854775807) : Calls Try.prog 13 #[.int .i64 z] w (WideOnly z w) := by
 obtain ⟨n, hn⟩ : ∃ n, z.natAbs = n := ⟨_, rfl⟩
 have hc : IsC (decide (z < 0)) n 0 0 0 z := ⟨⟨by omega, by omega, by omega, by omega, by simp [mag4, val]; split <;> omega⟩, by simp; omega⟩
 have hneg : z < 0 → IntKind.u64.wrap (-IntKind.u64.wrap z) = (n : Int) := by intro h; simp only [IntKind.wrap_u64]; omega
 have hpos : 0 ≤ z → IntKind.u64.wrap z = (n : Int) := by intro h; simp only [IntKind.wrap_u64]; omega
 by_cases h : z < 0
 · have e := hneg h
   have HX := hide (ext_alloc w (.cells #[.bool true, .int .u64 (n : Int), .int .u64 0, .int .u64 0, .int .u64 0] 25))
   have HC : Hid (IsC true n 0 0 0 z) := by have h2 := hc; simp only [h, decide_true] at h2; exact h2
   clear hneg hpos hn hc
   go_enter Try.func13, Try.ntmps13
   go_wp2
   exact bodyPost_ret (v := .agg #[.bool true, .int .u64 (n : Int), .int .u64 ((0 : Nat) : Int), .int .u64 ((0 : Nat) : Int), .int .u64 ((0 : Nat) : Int)]) (by simp [results, Try.results13, go_sem]) rfl ⟨true, n, 0, 0, 0, rfl, HC.out, HX.out⟩
 · have e := hpos (by omega)
   have HX := hide (ext_alloc w (.cells #[.bool false, .int .u64 (n : Int), .int .u64 0, .int .u64 0, .int .u64 0] 25))
   have HC : Hid (IsC false n 0 0 0 z) := by have h2 := hc; simp only [h, decide_false] at h2; exact h2
   clear hneg hpos hn hc
   go_enter Try.func13, Try.ntmps13
   go_wp2
   exact bodyPost_ret (v := .agg #[.bool false, .int .u64 (n : Int), .int .u64 ((0 : Nat) : Int), .int .u64 ((0 : Nat) : Int), .int .u64 ((0 : Nat) : Int)]) (by simp [results, Try.results13, go_sem]) rfl ⟨false, n, 0, 0, 0, rfl, HC.out, HX.out⟩
open Go Go.RowKit
theorem keep5 {w w' : World} (h : Ext w w') {b : Nat} {o : Obj} (k : w.heap[b]? = some o) : w'.heap[b]? = some o := by
 have hb : b < w.heap.size := (Array.getElem?_eq_some_iff.1 k).1
 exact (h.block b hb).trans k
def Box (W : World) (g : Nat) (s : Bool) (a b c d : Nat) : Prop := W.heap[g]? = some (.cells #[.bool s, .int .u64 (a : Int), .int .u64 (b : Int), .int .u64 (c : Int), .int .u64 (d : Int)] 25 (0, 0))
theorem Box.ext {w w' : World} {g : Nat} {s : Bool} {a b c d : Nat} (k : Box w g s a b c d) (h : Ext w w') : Box w' g s a b c d := keep5 h k
theorem Box.drew {w : World} {g : Nat} {s : Bool} {a b c d : Nat} (k : Box w g s a b c d) : Box w.drew g s a b c d := k
theorem Box.put {w : World} {g : Nat} {s t : Bool} {a b c d a' b' c' d' : Nat} (k : Box w g s a b c d) : Box (((((w.setCell ⟨g, 0, none⟩ (.bool t)).setCell ⟨g, 1, none⟩ (.int .u64 (a' : Int))).setCell ⟨g, 2, none⟩ (.int .u64 (b' : Int))).setCell ⟨g, 3, none⟩ (.int .u64 (c' : Int))).setCell ⟨g, 4, none⟩ (.int .u64 (d' : Int))) g t a' b' c' d' := by
 have h := store_block (store_block (store_block (store_block (store_block k 0 (.bool t)) 1 (.int .u64 (a' : Int))) 2 (.int .u64 (b' : Int))) 3 (.int .u64 (c' : Int))) 4 (.int .u64 (d' : Int))
 exact h
theorem Box.far {w : World} {g b' : Nat} {s : Bool} {a b c d : Nat} (k : Box w g s a b c d) (h : g ≠ b') (u0 u1 u2 u3 u4 : Value) : Box (((((w.setCell ⟨b', 0, none⟩ u0).setCell ⟨b', 1, none⟩ u1).setCell ⟨b', 2, none⟩ u2).setCell ⟨b', 3, none⟩ u3).setCell ⟨b', 4, none⟩ u4) g s a b c d := by
 unfold Box at *
 rw [heap_setCell_other _ _ _ _ (by simpa using h), heap_setCell_other _ _ _ _ (by simpa using h), heap_setCell_other _ _ _ _ (by simpa using h), heap_setCell_other _ _ _ _ (by simpa using h), heap_setCell_other _ _ _ _ (by simpa using h)]
 exact k
theorem three_boxes (w : World) (o p q : Obj) : (((w.alloc o).alloc p).alloc q).heap[w.heap.size]? = some o ∧ (((w.alloc o).alloc p).alloc q).heap[w.heap.size + 1]? = some p ∧ (((w.alloc o).alloc p).alloc q).heap[w.heap.size + 1 + 1]? = some q := by
 obtain ⟨h1, h2⟩ := two_blocks w o p
 have h3 := heap_alloc_new ((w.alloc o).alloc p) q
 have hs : ((w.alloc o).alloc p).heap.size = w.heap.size + 1 + 1 := by simp
 rw [hs] at h3
 exact ⟨keep5 (ext_alloc _ _) h1, keep5 (ext_alloc _ _) h2, h3⟩
def Two (w : World) (x y : Int) (wx : World) : Prop := ∃ (s : Bool) (a b c d : Nat) (t : Bool) (e f g h : Nat), IsC s a b c d x ∧ IsC t e f g h y ∧ Box wx w.heap.size s a b c d ∧ Box wx (w.heap.size + 1) t e f g h ∧ Box wx (w.heap.size + 1 + 1) false 0 0 0 0 ∧ Ext w wx
theorem Box.lt {w : World} {g : Nat} {s : Bool} {a b c d : Nat} (k : Box w g s a b c d) : g < w.heap.size := (Array.getElem?_eq_some_iff.1 k).1
theorem Box.new (w : World) (s : Bool) (a b c d : Nat) : Box (w.alloc (.cells #[.bool s, .int .u64 (a : Int), .int .u64 (b : Int), .int .u64 (c : Int), .int .u64 (d : Int)] 25)) w.heap.size s a b c d := heap_alloc_new w _
theorem Ext.al {w W : World} (h : Ext w W) (o : Obj) : Ext w (W.alloc o) := h.trans (ext_alloc _ _)
theorem Ext.dr {w W : World} (h : Ext w W) : Ext w W.drew := h.trans (ext_drew _)
end
section
open Go Go.RowKit
theorem rb2' {k : IntKind} {a a' : Int} {b b' : Bool} (h1 : a = a') (h2 : b = b') : Ending.returned (Value.tuple #[.int k a, .bool b]) = .returned (.tuple #[.int k a', .bool b']) := by rw [h1, h2]
def PairRet (k : IntKind) (x : Int) (b : Bool) (w : World) (e : Ending) (w' : World) : Prop := e = .returned (.tuple #[.int k x, .bool b]) ∧ Ext w w'
end
section
open Go Go.RowKit
def Upd (g : Nat) (w w' : World) : Prop := w'.os = w.os ∧ w'.tape = w.tape ∧ w'.output = w.output ∧ w.heap.size ≤ w'.heap.size ∧ ∀ k, k < w.heap.size → k ≠ g → w'.heap[k]? = w.heap[k]?
theorem Upd.refl (g : Nat) (w : World) : Upd g w w := ⟨rfl, rfl, rfl, Nat.le_refl _, fun _ _ _ => rfl⟩
theorem Upd.trans {g : Nat} {a b c : World} (h : Upd g a b) (k : Upd g b c) : Upd g a c :=
 ⟨k.1.trans h.1, k.2.1.trans h.2.1, k.2.2.1.trans h.2.2.1, Nat.le_trans h.2.2.2.1 k.2.2.2.1, fun i hi hn => (k.2.2.2.2 i (Nat.lt_of_lt_of_le hi h.2.2.2.1) hn).trans (h.2.2.2.2 i hi hn)⟩
theorem Ext.upd {w w' : World} (h : Ext w w') (g : Nat) : Upd g w w' := ⟨h.os, h.tape, h.output, h.size, fun k hk _ => h.block k hk⟩
theorem Upd.ext {g : Nat} {W w w' : World} (h : Upd g w w') (k : Ext W w) (hg : W.heap.size ≤ g) : Ext W w' :=
 ⟨h.1.trans k.os, h.2.1.trans k.tape, h.2.2.1.trans k.output, Nat.le_trans k.size h.2.2.2.1, fun i hi => (h.2.2.2.2 i (Nat.lt_of_lt_of_le hi k.size) (by omega)).trans (k.block i hi)⟩
theorem upd_set (w : World) (g k : Nat) (u : Value) : Upd g w (w.setCell ⟨g, k, none⟩ u) :=
 ⟨rfl, rfl, rfl, by simp [World.setCell], fun i _ hn => heap_setCell_other w ⟨g, k, none⟩ i u hn⟩
def Arr (w : World) (g : Nat) (T : TypeId) (L : List Nat) : Prop := w.heap[g]? = some (.cells (wd L).toArray T (0, 0))
theorem Arr.at {w : World} {g : Nat} {T : TypeId} {L : List Nat} (h : Arr w g T L) (i : Nat) (hi : i < L.length) : w.cell? ⟨g, i, none⟩ = some (.int .u64 (L[i] : Int)) := by
 rw [cell_of_block h]; simp [wd, hi]
theorem Arr.free {w : World} {g : Nat} {T : TypeId} {L : List Nat} (h : Arr w g T L) (i : Nat) : w.frozen? ⟨g, i, none⟩ = false := free_of_block h i
theorem Arr.lt {w : World} {g : Nat} {T : TypeId} {L : List Nat} (h : Arr w g T L) : g < w.heap.size := (Array.getElem?_eq_some_iff.1 h).1
theorem Arr.set {w : World} {g : Nat} {T : TypeId} {L : List Nat} (h : Arr w g T L) (k x : Nat) : Arr (w.setCell ⟨g, k, none⟩ (.int .u64 (x : Int))) g T (L.set k x) := by
 unfold Arr
 rw [store_block h k]
 simp [wd, List.map_set]
theorem Arr.far {w : World} {g b : Nat} {T : TypeId} {L : List Nat} (h : Arr w g T L) (hn : g ≠ b) (k : Nat) (u : Value) : Arr (w.setCell ⟨b, k, none⟩ u) g T L := by
 unfold Arr; rw [heap_setCell_other w ⟨b, k, none⟩ g u hn]; exact h
theorem Arr.ext {w w' : World} {g : Nat} {T : TypeId} {L : List Nat} (h : Arr w g T L) (k : Ext w w') : Arr w' g T L := by
 have := h.lt; unfold Arr; rw [k.block g this]; exact h
theorem Arr.upd {w w' : World} {g b : Nat} {T : TypeId} {L : List Nat} (h : Arr w g T L) (k : Upd b w w') (hn : g ≠ b) : Arr w' g T L := by
 have := h.lt; unfold Arr; rw [k.2.2.2.2 g this hn]; exact h
theorem Arr.drew {w : World} {g : Nat} {T : TypeId} {L : List Nat} (h : Arr w g T L) : Arr w.drew g T L := h
theorem Arr.drewN {w : World} {g : Nat} {T : TypeId} {L : List Nat} (h : Arr w g T L) (n : Nat) : Arr (w.drewN n) g T L := h
theorem Arr.four {w : World} {g : Nat} {T : TypeId} {a b c d : Nat} (h : Arr w g T [a, b, c, d]) :
   w.cell? ⟨g, 0, none⟩ = some (.int .u64 (a : Int)) ∧ w.cell? ⟨g, 1, none⟩ = some (.int .u64 (b : Int)) ∧ w.cell? ⟨g, 2, none⟩ = some (.int .u64 (c : Int)) ∧ w.cell? ⟨g, 3, none⟩ = some (.int .u64 (d : Int)) ∧
   w.frozen? ⟨g, 0, none⟩ = false ∧ w.frozen? ⟨g, 1, none⟩ = false ∧ w.frozen? ⟨g, 2, none⟩ = false ∧ w.frozen? ⟨g, 3, none⟩ = false :=
 ⟨h.at 0 (by simp), h.at 1 (by simp), h.at 2 (by simp), h.at 3 (by simp), h.free 0, h.free 1, h.free 2, h.free 3⟩
theorem four_list {L : List Nat} (h : L.length = 4) : ∃ a b c d, L = [a, b, c, d] := by
 match L, h with
 | [a, b, c, d], _ => exact ⟨a, b, c, d, rfl⟩
theorem arr_new (w : World) (T : TypeId) (L : List Nat) (cur : Array Value) (h : cur = (wd L).toArray) : Arr (w.alloc (.cells cur T)) w.heap.size T L := by
 subst h; exact heap_alloc_new w _
theorem eqIn4 (d : Nat) (t : TypeId) (ht : Try.prog.underlying t = some (.array 4 22)) (a b c e a' b' c' e' : Int) (w : World) :
   (Op.equalIn (d + 2) t (.agg #[.int .u64 a, .int .u64 b, .int .u64 c, .int .u64 e]) (.agg #[.int .u64 a', .int .u64 b', .int .u64 c', .int .u64 e'])).run Try.prog w = .ok (a == a' && (b == b' && (c == c' && e == e'))) w := by
 have hu := Try.underlying22
 have he : ∀ (x y : Int) (w : World), (Op.equalIn (d + 1) 22 (.int .u64 x) (.int .u64 y)).run Try.prog w = .ok (x == y) w := fun x y w => run_equalIn_int w d 22 .u64 .u64 x y hu
 have hs := Try.sizeOf22
 have p0 : ∀ (v0 v1 v2 v3 : Value) (w : World), (part 22 #[v0, v1, v2, v3] 0).run Try.prog w = .ok v0 w := by intro v0 v1 v2 v3 w; simp [part, isAgg, run_underlying hu]
 have p1 : ∀ (v0 v1 v2 v3 : Value) (w : World), (part 22 #[v0, v1, v2, v3] 1).run Try.prog w = .ok v1 w := by intro v0 v1 v2 v3 w; simp [part, isAgg, run_underlying hu]
 have p2 : ∀ (v0 v1 v2 v3 : Value) (w : World), (part 22 #[v0, v1, v2, v3] 2).run Try.prog w = .ok v2 w := by intro v0 v1 v2 v3 w; simp [part, isAgg, run_underlying hu]
 have p3 : ∀ (v0 v1 v2 v3 : Value) (w : World), (part 22 #[v0, v1, v2, v3] 3).run Try.prog w = .ok v3 w := by intro v0 v1 v2 v3 w; simp [part, isAgg, run_underlying hu]
 have hr : List.range' 0 4 1 = [0, 1, 2, 3] := rfl
 rw [Op.equalIn]
 simp only [Sem.run_bind, run_underlying ht, Result.andThen_ok, hs, Std.Legacy.Range.forIn_eq_forIn_range', Std.Legacy.Range.size, Nat.sub_zero, Nat.add_sub_cancel, Nat.div_one, hr]
 by_cases h1 : a = a' <;> by_cases h2 : b = b' <;> by_cases h3 : c = c' <;> by_cases h4 : e = e' <;> simp [h1, h2, h3, h4, p0, p1, p2, p3, he]
theorem eq5 (s s' : Bool) (a b c e a' b' c' e' : Int) (w : World) :
   (binOp .eql 25 (.agg #[.bool s, .int .u64 a, .int .u64 b, .int .u64 c, .int .u64 e]) (.agg #[.bool s', .int .u64 a', .int .u64 b', .int .u64 c', .int .u64 e'])).run Try.prog w = .ok (.bool (s == s' && (a == a' && (b == b' && (c == c' && e == e'))))) w := by
 have hS : Try.prog.underlying 25 = some (.struct (Try.prog.fieldsOf 25)) := by kernel_rfl
 have hp : Try.prog.stoodInHeld 25 = false := by kernel_rfl
 have u4 := Try.underlying4
 have h4 := eqIn4 9997 23 Try.underlying23
 have z23 := Try.sizeOf23
 rw [run_eql_struct, show (10000 : Nat) = 9999 + 1 from rfl, run_equalIn_agg w 9999 25 _ _ hS hp]
 simp only [Program.fieldsOf, Try.underlying25]
 simp [Op.eqFields, part, isAgg, run_underlying u4, run_equalIn_bool', u4, h4, z23]
 by_cases h0 : s = s' <;> by_cases h1 : a = a' <;> by_cases h2 : b = b' <;> by_cases h3 : c = c' <;> by_cases h4 : e = e' <;> simp [h0, h1, h2, h3, h4]
theorem eq4 (t : TypeId) (ht : Try.prog.underlying t = some (.array 4 22)) (a b c e a' b' c' e' : Int) (w : World) :
   (binOp .eql t (.agg #[.int .u64 a, .int .u64 b, .int .u64 c, .int .u64 e]) (.agg #[.int .u64 a', .int .u64 b', .int .u64 c', .int .u64 e'])).run Try.prog w = .ok (.bool (a == a' && (b == b' && (c == c' && e == e')))) w := by
 rw [run_eql_struct, show (10000 : Nat) = 9998 + 2 from rfl, eqIn4 9998 t ht]; rfl
theorem neq4 (t : TypeId) (ht : Try.prog.underlying t = some (.array 4 22)) (a b c e a' b' c' e' : Int) (w : World) :
   (binOp .neq t (.agg #[.int .u64 a, .int .u64 b, .int .u64 c, .int .u64 e]) (.agg #[.int .u64 a', .int .u64 b', .int .u64 c', .int .u64 e'])).run Try.prog w = .ok (.bool (!(a == a' && (b == b' && (c == c' && e == e'))))) w := by
 rw [run_neq_struct, show (10000 : Nat) = 9998 + 2 from rfl, eqIn4 9998 t ht]; rfl
theorem all0 (a b c d : Nat) (o : Bool) (h : decide (mag4 a b c d ≠ 0) = o) : (((a : Int) == 0) && (((b : Int) == 0) && (((c : Int) == 0) && ((d : Int) == 0)))) = !o := by
 subst h
 simp only [mag4, val]
 rw [Bool.eq_iff_iff]; simp; omega
theorem neq0 (t : TypeId) (ht : Try.prog.underlying t = some (.array 4 22)) (a b c d : Nat) (o : Bool) (h : decide (mag4 a b c d ≠ 0) = o) (w : World) :
   (binOp .neq t (.agg #[.int .u64 (a : Int), .int .u64 (b : Int), .int .u64 (c : Int), .int .u64 (d : Int)]) (.agg #[.int .u64 0, .int .u64 0, .int .u64 0, .int .u64 0])).run Try.prog w = .ok (.bool o) w := by
 rw [neq4 t ht, all0 a b c d o h, Bool.not_not]
theorem eql0 (t : TypeId) (ht : Try.prog.underlying t = some (.array 4 22)) (a b c d : Nat) (o : Bool) (h : decide (mag4 a b c d ≠ 0) = o) (w : World) :
   (binOp .eql t (.agg #[.int .u64 (a : Int), .int .u64 (b : Int), .int .u64 (c : Int), .int .u64 (d : Int)]) (.agg #[.int .u64 0, .int .u64 0, .int .u64 0, .int .u64 0])).run Try.prog w = .ok (.bool (!o)) w := by
 rw [eq4 t ht, all0 a b c d o h]
theorem p_valid (s : Bool) (a b c d : Nat) (z : Int) (w : World) (h : IsW s a b c d z) :
   Calls Try.prog 54 #[.agg #[.bool s, .int .u64 (a : Int), .int .u64 (b : Int), .int .u64 (c : Int), .int .u64 (d : Int)]] w (BoolRet (!s || decide (z ≠ 0)) w) := by
 cases s
 · go_enter Try.func54, Try.ntmps54
   go_wp2
   go_ret
   exact ⟨rbb (by simp), ext_alloc _ _⟩
 · obtain ⟨o, ho⟩ : ∃ o, decide (mag4 a b c d ≠ 0) = o := ⟨_, rfl⟩
   have hq := neq0 23 Try.underlying23 a b c d o ho
   have hz : Hid ((!true || decide (z ≠ 0)) = o) := by
     rw [← ho]; have := h.2.2.2.2; simp at this; subst this
     unfold Hid; simp
   clear ho h
   go_enter Try.func54, Try.ntmps54
   go_wp2
   go_ret
   exact ⟨rbb hz.out.symm, ext_alloc _ _⟩
set_option maxHeartbeats 1000000 in
theorem p_signed (s : Bool) (a b c d : Nat) (w : World) (ha : a < 18446744073709551616) (hb : b < 18446744073709551616) (hc : c < 18446744073709551616) (hd : d < 18446744073709551616) :
   Calls Try.prog 78 #[.bool s, .agg #[.int .u64 (a : Int), .int .u64 (b : Int), .int .u64 (c : Int), .int .u64 (d : Int)]] w (WideOnly (if s then -(mag4 a b c d : Int) else (mag4 a b c d : Int)) w) := by
 obtain ⟨o, ho⟩ : ∃ o, decide (mag4 a b c d ≠ 0) = o := ⟨_, rfl⟩
 have hq := neq0 107 Try.underlying107 a b c d o ho
 have HC : Hid (IsC (s && o) a b c d (if s then -(mag4 a b c d : Int) else (mag4 a b c d : Int))) := by
   refine ⟨⟨ha, hb, hc, hd, ?_⟩, ?_⟩
   · cases s <;> cases o <;> simp at ho ⊢; omega
   · cases s <;> cases o <;> simp at ho ⊢; omega
 clear ho
 cases s
 · go_enter Try.func78, Try.ntmps78
   go_wp2
   go_region
   all_goals go_wp2_with fail
   all_goals exact bodyPost_ret (v := .agg #[.bool false, .int .u64 (a : Int), .int .u64 (b : Int), .int .u64 (c : Int), .int .u64 (d : Int)]) (by simp [results, Try.results78, go_sem]) rfl ⟨false, a, b, c, d, rfl, HC.out, ((ext_alloc _ _).trans (ext_alloc _ _)).trans (ext_drew _)⟩
 · go_enter Try.func78, Try.ntmps78
   go_wp2
   go_region
   all_goals go_wp2_with fail
   all_goals exact bodyPost_ret (v := .agg #[.bool o, .int .u64 (a : Int), .int .u64 (b : Int), .int .u64 (c : Int), .int .u64 (d : Int)]) (by simp [results, Try.results78, go_sem]) rfl ⟨o, a, b, c, d, rfl, HC.out, ((ext_alloc _ _).trans (ext_alloc _ _)).trans (ext_drew _)⟩
open Go Go.RowKit
theorem quietAdd {P : Program} {f : FuncId} {args : Array Value} {w : World} {a n : Nat} {v : Value} (h : Calls P f args (w.drewN (a + n)) fun e w' => e = .returned v ∧ w.drewN (a + n) = w') :
   Calls P f args (w.drewN (a + n)) fun e w'' => e = .returned v ∧ ∃ m, w'' = w.drewN (a + m) := h.mono fun _ _ ⟨he, hm⟩ => ⟨he, n, hm.symm⟩
theorem eqTail (a b c d : Nat) (o : Bool) (h : decide (mag4 a b c d < 18446744073709551616) = o) (ha : a < 18446744073709551616) (w : World) :
   (binOp .eql 107 (.agg #[.int .u64 (a : Int), .int .u64 (b : Int), .int .u64 (c : Int), .int .u64 (d : Int)]) (.agg #[.int .u64 (a : Int), .int .u64 0, .int .u64 0, .int .u64 0])).run Try.prog w = .ok (.bool o) w := by
 rw [eq4 107 Try.underlying107, ← h]
 have e : mag4 a b c d < 18446744073709551616 ↔ (b = 0 ∧ c = 0 ∧ d = 0) := by simp only [mag4, val]; omega
 congr 2
 rw [Bool.eq_iff_iff, decide_eq_true_iff, e]; simp
theorem p_oneWord (a b c d : Nat) (w : World) (ha : a < 18446744073709551616) :
   Calls Try.prog 89 #[.agg #[.int .u64 (a : Int), .int .u64 (b : Int), .int .u64 (c : Int), .int .u64 (d : Int)]] w (PairRet .u64 a (decide (mag4 a b c d < 18446744073709551616)) w) := by
 obtain ⟨o, ho⟩ : ∃ o, decide (mag4 a b c d < 18446744073709551616) = o := ⟨_, rfl⟩
 have hq := eqTail a b c d o ho ha
 rw [ho]
 clear ho
 go_enter Try.func89, Try.ntmps89
 go_wp2
 go_quiet (fail)
 go_wp2
 go_ret2
 exact ⟨rfl, (ext_alloc _ _).trans (ext_drewN _ _)⟩
theorem len_of (L : List Nat) (hL : W64 L) (n : Nat) (hn : n ≤ L.length) (hz : val (L.drop n) = 0) (hp : n = 0 ∨ ∃ h : n - 1 < L.length, L[n - 1] ≠ 0) : (limbs (val L)).length = n := by
 have e : val L = val (L.take n) := by rw [val_take_drop L n hn, hz]; simp
 rw [e]
 rw [limbs_of _ (w64_take hL n) ?_, List.length_take, Nat.min_eq_left hn]
 rcases Classical.em (n = 0) with rfl | h0
 · simp
 · · obtain ⟨k, rfl⟩ : ∃ k, n = k + 1 := ⟨n - 1, by omega⟩
     rw [List.take_succ_eq_append_getElem (by omega)]
     rw [List.getLast?_concat]; intro h0; injection h0 with h0; exact hp.resolve_left (by omega) |>.elim fun _ h1 => h1 h0
theorem p_length (a b c d n : Nat) (hn : mag4 a b c d = n) (w : World) (hw : W64 [a, b, c, d]) :
   Calls Try.prog 96 #[.agg #[.int .u64 (a : Int), .int .u64 (b : Int), .int .u64 (c : Int), .int .u64 (d : Int)]] w (IntRet .i64 (limbs n).length w) := by
 have hA := arr_new w 107 [a, b, c, d] #[.int .u64 (a : Int), .int .u64 (b : Int), .int .u64 (c : Int), .int .u64 (d : Int)] rfl
 obtain ⟨L, hL⟩ : ∃ L, L = [a, b, c, d] := ⟨_, rfl⟩
 have h4 : L.length = 4 := by rw [hL]; rfl
 have hv : val L = n := by rw [hL]; exact hn
 rw [← hL] at hA hw
 have HA := hide hA
 have HX := hide (ext_alloc w (.cells #[.int .u64 (a : Int), .int .u64 (b : Int), .int .u64 (c : Int), .int .u64 (d : Int)] 107))
 have H4 := hide h4
 have HV := hide hv
 clear hA h4 hv hL hn
 go_enter Try.func96, Try.ntmps96
 go_wp2
 go_loop [3] (fun i => ∃ k : Nat, i = .int .i64 k ∧ k ≤ 4 ∧ Hid (val (L.drop k) = 0)) (fun i => (intOf i).toNat)
 case atStart => exact ⟨4, rfl, by omega, by unfold Hid; rw [List.drop_of_length_le (by rw [H4.out]; omega)]; rfl⟩
 case round =>
   obtain ⟨k, rfl, hk, HD⟩ := hrel
   by_cases hk0 : k = 0
   · subst hk0
     go_wp2
     go_ret
     exact ⟨rb1 (by have := len_of L hw 0 (by omega) HD.out (Or.inl rfl); rw [HV.out] at this; rw [this]; rfl), HX.out⟩
   · obtain ⟨j, rfl⟩ : ∃ j, k = j + 1 := ⟨k - 1, by omega⟩
     have hj : j < L.length := by rw [H4.out]; omega
     have hc := HA.out.at j hj
     obtain ⟨x, hx⟩ : ∃ x, L[j] = x := ⟨_, rfl⟩
     rw [hx] at hc
     have HXX := hide hx
     clear hx
     by_cases hz : x = 0
     · subst hz
       have HD2 : Hid (val (L.drop j) = 0) := by unfold Hid; rw [val_drop L j hj, HXX.out, HD.out]
       go_wp2
       exact ⟨⟨j, by go_num, by omega, HD2⟩, by simp [intOf]⟩
     · have hz' : ((x : Int) == 0) = false := by simp; omega
       go_wp2
       go_ret
       exact ⟨rb1 (by have := len_of L hw (j + 1) (by omega) HD.out (Or.inr ⟨by simpa using hj, by have := HXX.out; simp; omega⟩); rw [HV.out] at this; rw [this]; omega), HX.out⟩
theorem c_cmpU (x y : Nat) (w : World) : Calls Try.prog 92 #[.int .u64 (x : Int), .int .u64 (y : Int)] w fun e w' => e = .returned (.int .i64 (sgnN x y)) ∧ w = w' := by
 go_enter Try.func92, Try.ntmps92
 go_wp2
 all_goals go_ret
 all_goals exact ⟨rb1 (by unfold sgnN; first | (rw [if_pos (by omega)]; done) | (rw [if_neg (by omega), if_pos (by omega)]; done) | (rw [if_neg (by omega), if_neg (by omega)]; done)), rfl⟩
def sgnI (x y : Int) : Int := if x < y then -1 else if y < x then 1 else 0
theorem c_cmpI (x y : Int) (w : World) : Calls Try.prog 82 #[.int .i64 x, .int .i64 y] w fun e w' => e = .returned (.int .i64 (sgnI x y)) ∧ w = w' := by
 go_enter Try.func82, Try.ntmps82
 go_wp2
 all_goals go_ret
 all_goals exact ⟨rb1 (by unfold sgnI; first | (rw [if_pos (by omega)]; done) | (rw [if_neg (by omega), if_pos (by omega)]; done) | (rw [if_neg (by omega), if_neg (by omega)]; done)), rfl⟩
theorem p_cmpWords (a b c d e f g h n m : Nat) (hn : mag4 a b c d = n) (hm : mag4 e f g h = m) (w : World) (hw : W64 [a, b, c, d]) (hw' : W64 [e, f, g, h]) :
   Calls Try.prog 83 #[.agg #[.int .u64 (a : Int), .int .u64 (b : Int), .int .u64 (c : Int), .int .u64 (d : Int)], .agg #[.int .u64 (e : Int), .int .u64 (f : Int), .int .u64 (g : Int), .int .u64 (h : Int)]] w (IntRet .i64 (sgnN n m) w) := by
 have H1 := two_blocks w (.cells #[.int .u64 (a : Int), .int .u64 (b : Int), .int .u64 (c : Int), .int .u64 (d : Int)] 107) (.cells #[.int .u64 (e : Int), .int .u64 (f : Int), .int .u64 (g : Int), .int .u64 (h : Int)] 107)
 have HX := hide ((ext_alloc w (.cells #[.int .u64 (a : Int), .int .u64 (b : Int), .int .u64 (c : Int), .int .u64 (d : Int)] 107)).trans (ext_alloc _ (.cells #[.int .u64 (e : Int), .int .u64 (f : Int), .int .u64 (g : Int), .int .u64 (h : Int)] 107)))
 obtain ⟨W, hW⟩ : ∃ W, W = (w.alloc (.cells #[.int .u64 (a : Int), .int .u64 (b : Int), .int .u64 (c : Int), .int .u64 (d : Int)] 107)).alloc (.cells #[.int .u64 (e : Int), .int .u64 (f : Int), .int .u64 (g : Int), .int .u64 (h : Int)] 107) := ⟨_, rfl⟩
 rw [← hW] at H1 HX
 obtain ⟨L, hL⟩ : ∃ L, L = [a, b, c, d] := ⟨_, rfl⟩
 obtain ⟨M, hM⟩ : ∃ M, M = [e, f, g, h] := ⟨_, rfl⟩
 have A1 : Hid (Arr W w.heap.size 107 L) := by rw [hL]; exact H1.1
 have A2 : Hid (Arr W (w.heap.size + 1) 107 M) := by rw [hM]; exact H1.2
 have HL : Hid (L.length = 4) := by rw [hL]; exact rfl
 have HM : Hid (M.length = 4) := by rw [hM]; exact rfl
 have VL : Hid (val L = n) := by rw [hL]; exact hn
 have VM : Hid (val M = m) := by rw [hM]; exact hm
 rw [← hL] at hw
 rw [← hM] at hw'
 have HW := hide hW
 clear H1 hL hM hn hm hW
 go_enter Try.func83, Try.ntmps83
 go_wp2_with fail
 rw [← HW.out]
 clear HW
 go_loopw [5] (fun i wr => ∃ k : Nat, i = .int .i64 ((k : Int) - 1) ∧ k ≤ 4 ∧ Hid (L.drop k = M.drop k) ∧ Ext W wr) (fun i _ => (intOf i + 1).toNat)
 case atStart => exact ⟨4, rfl, by omega, by unfold Hid; rw [List.drop_of_length_le (by rw [HL.out]; omega), List.drop_of_length_le (by rw [HM.out]; omega)], Ext.refl _⟩
 case round =>
   obtain ⟨k, rfl, hk, HD, hE⟩ := hrel
   by_cases hk0 : k = 0
   · subst hk0
     go_wp2
     go_ret
     exact ⟨rb1 (by have e := HD.out; simp only [List.drop_zero] at e; have e2 := congrArg val e; rw [VL.out, VM.out] at e2; subst e2; simp [sgnN]), HX.out.trans hE⟩
   · obtain ⟨j, rfl⟩ : ∃ j, k = j + 1 := ⟨k - 1, by omega⟩
     have hs1 : j < L.length := by rw [HL.out]; omega
     have hs2 : j < M.length := by rw [HM.out]; omega
     have cg := (A1.out.ext hE).at j hs1
     have cg' := (A2.out.ext hE).at j hs2
     obtain ⟨x, hx⟩ : ∃ x, L[j] = x := ⟨_, rfl⟩
     obtain ⟨y, hy⟩ : ∃ y, M[j] = y := ⟨_, rfl⟩
     rw [hx] at cg
     rw [hy] at cg'
     have HXX := hide hx
     have HYY := hide hy
     clear hx hy
     have hE2 : ∀ q, Ext W (wr.drewN q) := fun q => hE.trans (ext_drewN _ _)
     by_cases hxy : x = y
     · subst hxy
       have HD2 : Hid (L.drop j = M.drop j) := by
         unfold Hid; rw [List.drop_eq_getElem_cons hs1, List.drop_eq_getElem_cons hs2, HD.out, HXX.out, HYY.out]
       clear HXX HYY
       go_wp2
       go_quiet (fail)
       go_wp2
       go_roundw
       case rel => exact ⟨j, by go_num, by omega, HD2, hE2 _⟩
       case measure => first | (simp [intOf]; done) | (simp [intOf]; omega)
     · have hne : ((x : Int) != (y : Int)) = true := by simp; omega
       have HS : Hid (sgnN x y = sgnN n m) := by
         rcases (by omega : x < y ∨ y < x) with hxy | hxy
         · have := cmp_lt L M j hs1 hs2 hw HD.out (by rw [HXX.out, HYY.out]; exact hxy)
           rw [VL.out, VM.out] at this
           unfold Hid sgnN; rw [if_pos hxy, if_pos this]
         · have := cmp_lt M L j hs2 hs1 hw' HD.out.symm (by rw [HXX.out, HYY.out]; exact hxy)
           rw [VL.out, VM.out] at this
           unfold Hid sgnN; rw [if_neg (by omega), if_pos hxy, if_neg (by omega), if_pos this]
       clear HXX HYY
       go_wp2
       go_quiet (fail)
       go_wp2
       go_quiet ((go_at_call 92; exact quietAdd (c_cmpU x y _)))
       go_wp2
       go_ret
       exact ⟨rb1 HS.out, HX.out.trans ((hE2 _).trans (ext_drewN _ _))⟩
open Go Go.RowKit
theorem Arr.seg {w : World} {g o : Nat} {T : TypeId} {P os Q : List Nat} (h : Arr w g T (P ++ os ++ Q)) (hP : P.length = o) (k : Nat) (hk : k < os.length) : w.cell? ⟨g, o + k, none⟩ = some (.int .u64 (os[k] : Int)) := by
 rw [h.at (o + k) (by simp; omega)]
 congr 3
 subst hP
 rw [List.getElem_append_left (by simp; omega), List.getElem_append_right (by omega)]
 simp
theorem Arr.segset {w : World} {g o : Nat} {T : TypeId} {P os Q : List Nat} (h : Arr w g T (P ++ os ++ Q)) (hP : P.length = o) (k x : Nat) (hk : k < os.length) : Arr (w.setCell ⟨g, o + k, none⟩ (.int .u64 (x : Int))) g T (P ++ os.set k x ++ Q) := by
 have h2 := h.set (o + k) x
 subst hP
 rw [List.append_assoc, List.set_append_right _ _ (by omega), Nat.add_sub_cancel_left, List.set_append_left _ _ hk, ← List.append_assoc] at h2
 exact h2
theorem w64_set {l : List Nat} (h : W64 l) (k x : Nat) (hx : x < 18446744073709551616) : W64 (l.set k x) := by
 intro y hy
 rcases List.mem_or_eq_of_mem_set hy with h2 | h2
 · exact h y h2
 · omega
def AddToPost (g n : Nat) (T : TypeId) (P p Q q : List Nat) (w : World) (e : Ending) (w' : World) : Prop :=
 ∃ (c : Nat) (os : List Nat), e = .returned (.int .u64 (c : Int)) ∧ c ≤ 1 ∧ os.length = n ∧ W64 os ∧ val os + 18446744073709551616 ^ n * c = val p + val q ∧ Arr w' g T (P ++ os ++ Q) ∧ Upd g w w'
def Reads (w : World) (g o : Nat) (q : List Nat) : Prop := g < w.heap.size ∧ ∀ i (h : i < q.length), w.cell? ⟨g, o + i, none⟩ = some (.int .u64 (q[i] : Int))
theorem Reads.upd {w w' : World} {g b o : Nat} {q : List Nat} (h : Reads w g o q) (k : Upd b w w') (hn : g ≠ b) : Reads w' g o q :=
 ⟨Nat.lt_of_lt_of_le h.1 k.2.2.2.1, fun i hi => (World.cell?_of_block (w := w) (w' := w') (a := ⟨g, o + i, none⟩) (k.2.2.2.2 g h.1 hn)).trans (h.2 i hi)⟩
theorem Reads.ext {w w' : World} {g o : Nat} {q : List Nat} (h : Reads w g o q) (k : Ext w w') : Reads w' g o q :=
 ⟨Nat.lt_of_lt_of_le h.1 k.size, fun i hi => (k.cell (p := ⟨g, o + i, none⟩) h.1).trans (h.2 i hi)⟩
theorem Arr.reads {w : World} {g o : Nat} {T : TypeId} {P q Q : List Nat} (h : Arr w g T (P ++ q ++ Q)) (hP : P.length = o) : Reads w g o q := ⟨h.lt, fun i hi => h.seg hP i hi⟩
theorem Upd.drewN {g : Nat} {w w' : World} (h : Upd g w w') (n : Nat) : Upd g w (w'.drewN n) := h.trans (Ext.upd (ext_drewN _ _) g)
theorem Upd.drew {g : Nat} {w w' : World} (h : Upd g w w') : Upd g w w'.drew := h.trans (Ext.upd (ext_drew _) g)
theorem Upd.set {g : Nat} {w w' : World} (h : Upd g w w') (k : Nat) (u : Value) : Upd g w (w'.setCell ⟨g, k, none⟩ u) := h.trans (upd_set _ _ _ _)
set_option maxHeartbeats 1000000 in
theorem p_addTo (g o n ca gb ob m cb : Nat) (T : TypeId) (P p Q q : List Nat) (w : World) (hA : Arr w g T (P ++ p ++ Q)) (hP : P.length = o) (hp : p.length = n) (hq : q.length = m) (hB : Reads w gb ob q) (hne : gb ≠ g) (hmn : m ≤ n) (hn : n ≤ 1000) (wp : W64 p) (wq : W64 q) :
   Calls Try.prog 95 #[.slice (some ⟨g, o, none⟩) n ca, .slice (some ⟨gb, ob, none⟩) m cb] w (AddToPost g n T P p Q q w) := by
 have HP := hide hP
 have Hp := hide hp
 have Hq := hide hq
 have HA := hide hA
 have HB := hide hB
 clear hP hp hq hA hB
 go_enter Try.func95, Try.ntmps95
 go_wp2_with fail
 go_loopw [11, 5] (fun i t wr => ∃ (k c : Nat) (os : List Nat), i = .int .i64 k ∧ t = .int .u64 c ∧ k ≤ m ∧ c ≤ 1 ∧ Hid (AddRel p q os k c) ∧ W64 os ∧ Hid (Arr wr g T (P ++ os ++ Q)) ∧ Upd g w wr) (fun i _ _ => m - (intOf i).toNat)
 case atStart => exact ⟨0, 0, p, rfl, rfl, by omega, by omega, ⟨rfl, rfl, by omega, by simp [val]⟩, wp, HA, Upd.refl _ _⟩
 case round =>
   obtain ⟨k, c, os, rfl, rfl, hk, hc, HR, wo, HO, hU⟩ := hrel
   have HL : Hid (os.length = n) := HR.out.1.trans Hp.out
   by_cases hkm : k < m
   · have hkn : k < os.length := by rw [HL.out]; omega
     have cg := HO.out.seg HP.out k hkn
     have fg := HO.out.free (o + k)
     have cb := (HB.out.upd hU hne).2 k (by rw [Hq.out]; omega)
     obtain ⟨x, hx⟩ : ∃ x, os[k] = x := ⟨_, rfl⟩
     obtain ⟨y, hy⟩ : ∃ y, q[k]'(by rw [Hq.out]; omega) = y := ⟨_, rfl⟩
     rw [hx] at cg
     rw [hy] at cb
     have HX : Hid (x = p[k]'(by rw [Hp.out]; omega)) := by rw [← hx]; exact (drop_get HR.out.2.1 hkn (by rw [Hp.out]; omega)).1
     have HY : Hid (q.getD k 0 = y) := by rw [← hy]; simp [Hid, List.getD, show k < q.length by rw [Hq.out]; omega]
     clear hx hy
     have hadd := add64_run x y c hc
     have HS : Hid (AddRel p q (os.set k ((x + y + c) % 18446744073709551616)) (k + 1) ((x + y + c) / 18446744073709551616)) := by
       have := HR.out.step (by rw [Hp.out]; omega) wp wq
       rw [← HX.out, HY.out] at this
       exact this
     have HW2 := HO.out.segset HP.out k ((x + y + c) % 18446744073709551616) hkn
     rw [show (((x + y + c) % 18446744073709551616 : Nat) : Int) = ((x : Int) + y + c) % 18446744073709551616 by omega] at HW2
     have HW := hide HW2
     have HU := hide (hU.set (o + k) (.int .u64 (((x : Int) + y + c) % 18446744073709551616)))
     clear HW2
     go_wp2
     exact ⟨⟨k + 1, _, _, by go_num, by go_num, by omega, HS.out.2.2.1, HS, w64_set wo _ _ (by omega), HW, HU.out⟩, by simp [intOf]; omega⟩
   · obtain rfl : k = m := by omega
     have HK := hide hU
     have HR0 := hide HR
     clear HR hU HL
     go_wp2_with fail
     go_loopw [8, 5] (fun i t wr => ∃ (j c : Nat) (os : List Nat), i = .int .i64 j ∧ t = .int .u64 c ∧ k ≤ j ∧ j ≤ n ∧ c ≤ 1 ∧ Hid (AddRel p q os j c) ∧ W64 os ∧ Hid (Arr wr g T (P ++ os ++ Q)) ∧ Upd g w wr) (fun i _ _ => n - (intOf i).toNat)
     case atStart => exact ⟨k, c, os, rfl, rfl, by omega, by omega, hc, HR0.out, wo, HO, HK.out⟩
     case round =>
       clear HO HK HR0 wo hc
       obtain ⟨j, c, os, rfl, rfl, hj0, hj, hc, HR, wo, HO, hU⟩ := hrel
       have HL : Hid (os.length = n) := HR.out.1.trans Hp.out
       by_cases hjn : j < n
       · have hkn : j < os.length := by rw [HL.out]; omega
         have cg := HO.out.seg HP.out j hkn
         have fg := HO.out.free (o + j)
         obtain ⟨x, hx⟩ : ∃ x, os[j] = x := ⟨_, rfl⟩
         rw [hx] at cg
         have HX : Hid (x = p[j]'(by rw [Hp.out]; omega)) := by rw [← hx]; exact (drop_get HR.out.2.1 hkn (by rw [Hp.out]; omega)).1
         have HY : Hid (q.getD j 0 = 0) := by simp [Hid, List.getD, show q.length ≤ j by rw [Hq.out]; omega]
         clear hx
         have hadd := add64_run0 x c hc
         have HS : Hid (AddRel p q (os.set j ((x + 0 + c) % 18446744073709551616)) (j + 1) ((x + 0 + c) / 18446744073709551616)) := by
           have := HR.out.step (by rw [Hp.out]; omega) wp wq
           rw [← HX.out, HY.out] at this
           exact this
         have HW2 := HO.out.segset HP.out j ((x + 0 + c) % 18446744073709551616) hkn
         rw [show (((x + 0 + c) % 18446744073709551616 : Nat) : Int) = ((x : Int) + c) % 18446744073709551616 by omega] at HW2
         have HW := hide HW2
         have HU := hide (hU.set (o + j) (.int .u64 (((x : Int) + c) % 18446744073709551616)))
         clear HW2
         go_wp2
         exact ⟨⟨j + 1, _, _, by go_num, by go_num, by omega, by omega, HS.out.2.2.1, HS, w64_set wo _ _ (by omega), HW, HU.out⟩, by simp [intOf]; omega⟩
       · obtain rfl : j = n := by omega
         have H1 : Hid (val os + 18446744073709551616 ^ j * c = val p + val q) := by
           have h1 := HR.out
           rw [show j = p.length from Hp.out.symm] at h1
           have h2 := h1.done (by rw [Hp.out, Hq.out]; omega)
           rw [val_snoc, HL.out] at h2
           exact h2
         go_wp2
         go_ret
         exact ⟨c, os, rfl, hc, HL.out, wo, H1.out, HO.out, hU⟩
end
section
open Go Go.RowKit
def U64 (a : Int) : Prop := 0 ≤ a ∧ a ≤ 18446744073709551615
theorem wrap_u64' (n : Int) : IntKind.u64.wrap n = n % 18446744073709551616 := by simp [IntKind.wrap, IntKind.bits, IntKind.signed]
theorem m32 (n : Int) : bits .and .u64 n 4294967295 = n % 4294967296 := by
 have h127 : (BitVec.ofInt 64 4294967295).toNat = 2 ^ 32 - 1 := by decide
 have key : (BitVec.ofInt 64 n &&& BitVec.ofInt 64 4294967295).toNat = (n % ((2 ^ 64 : Nat) : Int)).toNat % 2 ^ 32 := by
   rw [BitVec.toNat_and, BitVec.toNat_ofInt, h127, Nat.and_two_pow_sub_one_eq_mod]
 show IntKind.u64.wrap ((BitVec.ofInt 64 n &&& BitVec.ofInt 64 4294967295).toNat : Nat) = n % 4294967296
 rw [key, wrap_u64']
 omega
theorem half_le {a b : Int} (ha : 0 ≤ a) (ha2 : a ≤ 4294967295) (hb : 0 ≤ b) (hb2 : b ≤ 4294967295) : 0 ≤ a * b ∧ a * b ≤ 18446744065119617025 := by
 refine ⟨Int.mul_nonneg ha hb, ?_⟩
 have h1 : a * b ≤ 4294967295 * b := Int.mul_le_mul_of_nonneg_right ha2 hb
 omega
theorem mul_halves (a b : Int) (a1 : 0 ≤ a) (a2 : a ≤ 18446744073709551615) (b1 : 0 ≤ b) (b2 : b ≤ 18446744073709551615) :
   (((a / 4294967296 * (b / 4294967296)) % 18446744073709551616 + ((a / 4294967296 * (b % 4294967296)) % 18446744073709551616 + ((a % 4294967296 * (b % 4294967296)) % 18446744073709551616) / 4294967296) % 18446744073709551616 / 4294967296) % 18446744073709551616 + ((((a / 4294967296 * (b % 4294967296)) % 18446744073709551616 + ((a % 4294967296 * (b % 4294967296)) % 18446744073709551616) / 4294967296) % 18446744073709551616) % 4294967296 + (a % 4294967296 * (b / 4294967296)) % 18446744073709551616) % 18446744073709551616 / 4294967296) % 18446744073709551616 = a * b / 18446744073709551616 := by
 have e1 : a = a / 4294967296 * 4294967296 + a % 4294967296 := by omega
 have e2 : b = b / 4294967296 * 4294967296 + b % 4294967296 := by omega
 have h1 := half_le (a := a / 4294967296) (b := b / 4294967296) (by omega) (by omega) (by omega) (by omega)
 have h2 := half_le (a := a / 4294967296) (b := b % 4294967296) (by omega) (by omega) (by omega) (by omega)
 have h3 := half_le (a := a % 4294967296) (b := b / 4294967296) (by omega) (by omega) (by omega) (by omega)
 have h4 := half_le (a := a % 4294967296) (b := b % 4294967296) (by omega) (by omega) (by omega) (by omega)
 generalize a / 4294967296 = x1 at *
 generalize a % 4294967296 = x0 at *
 generalize b / 4294967296 = y1 at *
 generalize b % 4294967296 = y0 at *
 have e : a * b = x1 * y1 * 18446744073709551616 + (x1 * y0 + x0 * y1) * 4294967296 + x0 * y0 := by rw [e1, e2]; grind
 rw [e]
 generalize x1 * y1 = p at *
 generalize x1 * y0 = q at *
 generalize x0 * y1 = r at *
 generalize x0 * y0 = s at *
 clear e1 e2 e
 omega
theorem rr2 {k j : IntKind} {a a' : Int} {b b' : Int} (h1 : a = a') (h2 : b = b') : Ending.returned (Value.tuple #[.int k a, .int j b]) = .returned (.tuple #[.int k a', .int j b']) := by rw [h1, h2]
theorem m_mul64 (a : Int) (b : Int) (w : World) (ha : U64 a) (hb : U64 b) :
   Calls Try.prog 94 #[.int .u64 a, .int .u64 b] w fun e w' => e = .returned (.tuple #[.int .u64 (a * b / 18446744073709551616), .int .u64 (a * b % 18446744073709551616)]) ∧ w = w' := by
 obtain ⟨a1, a2⟩ := ha
 obtain ⟨b1, b2⟩ := hb
 go_enter Try.func94, Try.ntmps94
 go_wp2
 go_ret2
 exact ⟨rr2 (by simp only [m32, wrap_u64']; exact mul_halves a b a1 a2 b1 b2) (by simp only [wrap_u64']), rfl⟩
theorem b_mul64 (a b h l : Nat) (w : World) (ha : a < 18446744073709551616) (hb : b < 18446744073709551616) (hh : Hid (a * b / 18446744073709551616 = h)) (hl : Hid (a * b % 18446744073709551616 = l)) :
   Calls Try.prog 94 #[.int .u64 (a : Int), .int .u64 (b : Int)] w fun e w' => e = .returned (.tuple #[.int .u64 (h : Int), .int .u64 (l : Int)]) ∧ w = w' := by
 refine (m_mul64 a b w (by unfold U64; omega) (by unfold U64; omega)).mono ?_
 rintro e w' ⟨rfl, rfl⟩
 exact ⟨rr2 (by rw [← hh.out, Int.natCast_ediv, Int.natCast_mul]; rfl) (by rw [← hl.out, Int.natCast_emod, Int.natCast_mul]; rfl), rfl⟩
theorem add64_eq (x y c l h : Nat) (hc : c ≤ 1) (hl : (x + y + c) % 18446744073709551616 = l) (hh : (x + y + c) / 18446744073709551616 = h) (w : World) : (callFunc 49 #[.int .u64 (x : Int), .int .u64 (y : Int), .int .u64 (c : Int)]).run Try.prog w =
     .ok (.value (.tuple #[.int .u64 (l : Int), .int .u64 (h : Int)])) w := by rw [add64_run x y c hc, hl, hh]
theorem add64_eq0 (x y l h : Nat) (hl : (x + y) % 18446744073709551616 = l) (hh : (x + y) / 18446744073709551616 = h) (w : World) : (callFunc 49 #[.int .u64 (x : Int), .int .u64 (y : Int), .int .u64 0]).run Try.prog w =
     .ok (.value (.tuple #[.int .u64 (l : Int), .int .u64 (h : Int)])) w := add64_eq x y 0 l h (by omega) hl hh w
theorem sub64_eq (x y c l h : Nat) (hc : c ≤ 1) (hl : (x + 18446744073709551616 - y - c) % 18446744073709551616 = l) (hh : (if x < y + c then 1 else 0) = h) (w : World) : (callFunc 50 #[.int .u64 (x : Int), .int .u64 (y : Int), .int .u64 (c : Int)]).run Try.prog w =
     .ok (.value (.tuple #[.int .u64 (l : Int), .int .u64 (h : Int)])) w := by rw [sub64_run x y c hc, hl, hh]
theorem prod_le {a b : Nat} (ha : a < 18446744073709551616) (hb : b < 18446744073709551616) : a * b ≤ 340282366920938463426481119284349108225 := by
 have h1 : a * b ≤ 18446744073709551615 * b := Nat.mul_le_mul_right _ (by omega)
 omega
end
section
open Go Go.RowKit
def I64 (a : Int) : Prop := -9223372036854775808 ≤ a ∧ a ≤ 9223372036854775807
def InN (n v : Int) : Prop := 0 ≤ v ∧ (1 ≤ n → v < n) ∧ (n < 1 → v = 0)
def modN (a n : Int) : Int := if n < 1 then 0 else if a.tmod n < 0 then a.tmod n + n else a.tmod n
theorem modN_in (a n : Int) : InN n (modN a n) := by
 unfold InN modN
 have ht := tq a n
 split
 · omega
 · have h2 := (ht (by omega)).2.1
   split <;> omega
theorem t_mod (a n : Int) (w : World) (ha : I64 a) (hn : I64 n) :
   Calls Try.prog 28 #[.int .i64 a, .int .i64 n] w fun e w' => e = .returned (.int .i64 (modN a n)) ∧ w' = w := by
 obtain ⟨a1, a2⟩ := ha
 obtain ⟨n1, n2⟩ := hn
 by_cases h : n < 1
 · go_enter Try.func28, Try.ntmps28
   go_wp2
   go_ret
   exact ⟨rb1 (by simp only [modN]; omega), rfl⟩
 · have t1 : (a.tmod n).natAbs < n.natAbs := (tq a n (by omega)).2.1
   go_enter Try.func28, Try.ntmps28
   go_wp2
   all_goals go_ret
   all_goals exact ⟨rb1 (by simp only [modN]; grind), rfl⟩
def TapeOk (B : Nat) (w : World) (b : Nat) : Prop :=
 B ≤ b ∧ b < w.heap.size ∧ ∃ (a : Option Addr) (len cap at_ : Nat), w.cell? ⟨b, 0, none⟩ = some (.slice a len cap) ∧ w.cell? ⟨b, 1, none⟩ = some (.int .i64 at_) ∧ w.frozen? ⟨b, 1, none⟩ = false ∧ at_ ≤ 9223372036854775807 ∧ len ≤ 9223372036854775807 ∧
   (len = 0 ∨ ∃ xb xo : Nat, a = some ⟨xb, xo, none⟩ ∧ xb < B ∧ len ≤ cap ∧ ∀ i, i < len → ∃ v : Int, I64 v ∧ w.cell? ⟨xb, xo + i, none⟩ = some (.int .i64 v))
theorem TapeOk.below {B b : Nat} {w w' : World} (h : TapeOk B w b) (k : Below (b + 1) w w') : TapeOk B w' b := by
 obtain ⟨h1, h2, a, len, cap, at_, c0, c1, f1, h3, h4, hx⟩ := h
 have hs := k.size
 refine ⟨h1, by omega, a, len, cap, at_, (k.cell (p := ⟨b, 0, none⟩) (by simp)).trans c0, (k.cell (p := ⟨b, 1, none⟩) (by simp)).trans c1, (k.frozen (p := ⟨b, 1, none⟩) (by simp)).trans f1, h3, h4, ?_⟩
 rcases hx with hx | ⟨xb, xo, e, hb, hl, hc⟩
 · exact Or.inl hx
 · refine Or.inr ⟨xb, xo, e, hb, hl, fun i hi => ?_⟩
   obtain ⟨v, hv, cv⟩ := hc i hi
   exact ⟨v, hv, (k.cell (p := ⟨xb, xo + i, none⟩) (by simp; omega)).trans cv⟩
theorem below_drewN' (B : Nat) (w : World) (n : Nat) : Below B w (w.drewN n) := ⟨rfl, rfl, rfl, Nat.le_refl _, fun _ _ => rfl⟩
theorem TapeOk.bump {B b : Nat} {w : World} (h : TapeOk B w b) (k : Int) (h0 : 0 ≤ k) (hk : k ≤ 9223372036854775807) :
   TapeOk B (w.setCell ⟨b, 1, none⟩ (.int .i64 k)) b ∧ Below B w (w.setCell ⟨b, 1, none⟩ (.int .i64 k)) := by
 obtain ⟨k, rfl⟩ := Int.eq_ofNat_of_zero_le h0
 obtain ⟨h1, h2, a, len, cap, at_, c0, c1, f1, h3, h4, hx⟩ := h
 have hb : Below B w (w.setCell ⟨b, 1, none⟩ (.int .i64 k)) := (Below.refl B w).setCell (p := ⟨b, 1, none⟩) h1 _
 refine ⟨⟨h1, by simpa [World.setCell] using h2, a, len, cap, k, ?_, World.cell?_setCell_same _ _ _ c1, ?_, by omega, h4, ?_⟩, hb⟩
 · rw [World.cell?_setCell_other _ _ _ _ (by simp)]; exact c0
 · rw [World.frozen?_setCell]; exact f1
 · rcases hx with hx | ⟨xb, xo, e, hb', hl, hc⟩
   · exact Or.inl hx
   · refine Or.inr ⟨xb, xo, e, hb', hl, fun i hi => ?_⟩
     obtain ⟨v, hv, cv⟩ := hc i hi
     exact ⟨v, hv, (hb.cell (p := ⟨xb, xo + i, none⟩) hb').trans cv⟩
def NextPost (B b : Nat) (P : Int → Prop) (k : IntKind) (w : World) (e : Ending) (w' : World) : Prop := ∃ v : Int, e = .returned (.int k v) ∧ P v ∧ TapeOk B w' b ∧ Upd b w w'
theorem t_next (B b : Nat) (n : Int) (w : World) (hn : I64 n) (hT : TapeOk B w b) :
   Calls Try.prog 11 #[.pointer (some ⟨b, 0, none⟩), .int .i64 n] w (NextPost B b (InN n) .i64 w) := by
 have hT' := hT
 obtain ⟨hB, hb, a, len, cap, at_, c0, c1, f1, h1, h2, hx⟩ := hT'
 by_cases hlt : at_ < len
 · obtain ⟨xb, xo, rfl, hxB, hl, hc⟩ : ∃ xb xo : Nat, a = some ⟨xb, xo, none⟩ ∧ xb < B ∧ len ≤ cap ∧ ∀ i, i < len → ∃ v : Int, I64 v ∧ w.cell? ⟨xb, xo + i, none⟩ = some (.int .i64 v) := by
     rcases hx with hx | hx
     · omega
     · exact hx
   obtain ⟨v, hv, cx⟩ := hc at_ hlt
   have hlt' : ((at_ : Int) < (len : Int)) := by omega
   have hne : ¬ (xb = b) := by omega
   clear hc hx
   have hwr : IntKind.i64.wrap ((at_ : Int) + 1) = (at_ : Int) + 1 := by rw [IntKind.wrap_i64]; omega
   go_enter Try.func11, Try.ntmps11
   go_wp2
   go_quiet (fail)
   go_wp2
   have hw1 : IntKind.i64.wrap ((at_ : Int) + 1 - 1) = (at_ : Int) := by rw [IntKind.wrap_i64]; omega
   have hw0 : (0 : Int) ≤ (at_ : Int) := by omega
   go_quiet ((go_at_call 28; exact Calls.quiet_of_same (t_mod _ _ _ hv hn)))
   go_wp2
   go_ret
   exact ⟨_, rfl, modN_in v n, (TapeOk.bump (hT.below (below_drewN' (b + 1) w _)) _ (by omega) (by omega)).1.below (below_drewN' _ _ _), (((Upd.refl b w).drewN _).set 1 _).drewN _⟩
 · have hge : ((len : Int) ≤ (at_ : Int)) := by omega
   clear hx
   go_enter Try.func11, Try.ntmps11
   go_wp2
   go_quiet (fail)
   go_wp2
   go_ret
   exact ⟨0, rfl, by unfold InN; omega, hT.below (below_drewN' _ _ _), (Upd.refl _ _).drewN _⟩
theorem t_word (B b : Nat) (w : World) (hT : TapeOk B w b) :
   Calls Try.prog 41 #[.pointer (some ⟨b, 0, none⟩)] w (NextPost B b U64 .u64 w) := by
 go_enter Try.func41, Try.ntmps41
 go_wp2_with fail
 go_loopw [3, 4] (fun t i wr => ∃ (k : Nat) (v : Int), k ≤ 4 ∧ i = .int .i64 k ∧ t = .int .u64 v ∧ U64 v ∧ TapeOk B wr b ∧ Upd b w wr) (fun _ i _ => 4 - (intOf i).toNat)
 case atStart => exact ⟨0, 0, by omega, rfl, rfl, by unfold U64; omega, hT, Upd.refl _ _⟩
 case round =>
   obtain ⟨k, v, hk, rfl, rfl, hv, hT', hB⟩ := hrel
   by_cases hlt : k < 4
   · go_wp2_with (go_at_call 11; refine (t_next _ _ _ _ ⟨by omega, by omega⟩ hT').mono ?_; rintro e w' ⟨u, rfl, hu, hT2, hB2⟩)
     exact ⟨⟨k + 1, _, by omega, by go_num, rfl, by unfold U64; rw [wrap_u64']; omega, hT2, hB.trans hB2⟩, by simp [intOf]; omega⟩
   · go_wp2
     go_ret
     exact ⟨_, rfl, hv, hT', hB⟩
theorem t_next' (B b : Nat) (n : Int) (W w : World) (hn : I64 n) (hT : TapeOk B w b) (hW : Upd b W w) :
   Calls Try.prog 11 #[.pointer (some ⟨b, 0, none⟩), .int .i64 n] w (NextPost B b (InN n) .i64 W) :=
 (t_next B b n w hn hT).mono fun _ _ ⟨v, e, h, t, k⟩ => ⟨v, e, h, t, hW.trans k⟩
theorem t_word' (B b : Nat) (W w : World) (hT : TapeOk B w b) (hW : Upd b W w) :
   Calls Try.prog 41 #[.pointer (some ⟨b, 0, none⟩)] w (NextPost B b U64 .u64 W) :=
 (t_word B b w hT).mono fun _ _ ⟨v, e, h, t, k⟩ => ⟨v, e, h, t, hW.trans k⟩
def NewPost (W : World) (e : Ending) (w' : World) : Prop := e = .returned (.pointer (some ⟨W.heap.size, 0, none⟩)) ∧ TapeOk W.heap.size w' W.heap.size ∧ Below W.heap.size W w'
def IsList (w : World) (a : Option Addr) (len cap : Nat) : Prop :=
 len ≤ 9223372036854775807 ∧ (len = 0 ∨ ∃ xb xo : Nat, a = some ⟨xb, xo, none⟩ ∧ xb < w.heap.size ∧ len ≤ cap ∧ ∀ i, i < len → ∃ v : Int, I64 v ∧ w.cell? ⟨xb, xo + i, none⟩ = some (.int .i64 v))
theorem t_new (W : World) (a : Option Addr) (len cap : Nat) (h : IsList W a len cap) :
   Calls Try.prog 7 #[.slice a len cap] W (NewPost W) := by
 go_enter Try.func7, Try.ntmps7
 go_wp2
 go_ret
 obtain ⟨hl, hx⟩ := h
 have hb : ∀ o, Below W.heap.size W (W.alloc o) := fun o => (Below.refl _ _).alloc (Nat.le_refl _) o
 refine ⟨rfl, ⟨Nat.le_refl _, by simp, a, len, cap, 0, by simp, by simp, ?_, by omega, hl, ?_⟩, hb _⟩
 · go_simp
 · rcases hx with hx | ⟨xb, xo, e, h1, h2, hc⟩
   · exact Or.inl hx
   · refine Or.inr ⟨xb, xo, e, h1, h2, fun i hi => ?_⟩
     obtain ⟨v, hv, cv⟩ := hc i hi
     exact ⟨v, hv, ((hb _).cell (p := ⟨xb, xo + i, none⟩) h1).trans cv⟩
end
section
open Go Go.RowKit
section
open Go Go.ChangeShapes Go.WideShapes Go.ChangeAt Go.RowKit
theorem laidOut : laidOutB Try.prog = true := by kernel_rfl
theorem list_of_trod {H : Type} {enc : TypeId × Value → H} {W : World} {a : Option Addr} {len cap : Nat} {d : DataW H} {ps : List MemPlace} (h : DataW.Trod enc Try.prog W 0 (fun _ => true) true 28 (.slice a len cap) d ps) (_ : ∀ x ∈ ps, x.block < W.heap.size) : IsList W a len cap := by
 obtain ⟨fuel, hf⟩ := h
 rcases open_ints Try.underlying28 Try.underlying3 (by kernel_rfl) hf with ⟨hcs, _⟩ | ⟨x, l, c, zs, hcs, _, hl, hm, hz, _, hcell, hwz⟩
 · simp [Value.cells] at hcs
   obtain ⟨rfl, rfl, rfl⟩ := hcs
   exact ⟨by omega, Or.inl rfl⟩
 · simp [Value.cells] at hcs
   obtain ⟨rfl, rfl, rfl⟩ := hcs
   have hz : zs.length = cap := by simpa using hz
   unfold maxLen at hm
   refine ⟨by omega, ?_⟩
   by_cases h0 : len = 0
   · exact Or.inl h0
   · obtain ⟨b, off, rfl, hc'⟩ := ints_at hcell (by omega)
     refine Or.inr ⟨b, off, rfl, block_lt_of_cell (a := ⟨b, off + 0, none⟩) (hc' 0 (by omega)), hl, fun i hi => ⟨zs.getD i 0, ?_, hc' i (by omega)⟩⟩
     have hg : zs.getD i 0 = zs[i] := by simp [List.getD, show i < zs.length by omega]
     rw [hg]
     exact bounds_i64 (hwz _ (List.getElem_mem _))
end
section
open Go Go.ChangeShapes Go.WideShapes Go.ChangeAt Go.RowKit
theorem cellsArr : Try.prog.cellsOf 23 = 4 := by kernel_rfl
theorem cellsBool : Try.prog.cellsOf 4 = 1 := by kernel_rfl
theorem cellsWord : Try.prog.cellsOf 22 = 1 := by kernel_rfl
theorem isW_of (s : Bool) (a b c d : Nat) (ha : a < 18446744073709551616) (hb : b < 18446744073709551616) (hc : c < 18446744073709551616) (hd : d < 18446744073709551616) : ∃ z, IsW s a b c d z := ⟨_, ha, hb, hc, hd, rfl⟩
theorem word_of {H : Type} {enc : TypeId × Value → H} {W : World} {m : Nat} {v : Value} {x : DataW H × List MemPlace} (h : DataW.trod enc Try.prog W 0 (fun _ => true) true m 22 [v] = some x) : ∃ a : Nat, v = .int .u64 (a : Int) ∧ a < 18446744073709551616 := by
 obtain ⟨n, hn, _, hw⟩ := DataW.trod_int Try.underlying22 h
 simp at hn
 subst hn
 obtain ⟨h1, h2⟩ := bounds_u64 hw
 exact ⟨n.toNat, by rw [Int.toNat_of_nonneg h1], by omega⟩
end
end
section
open Go Go.ChangeShapes Go.WideShapes Go.ChangeAt Go.RowKit
set_option maxRecDepth 100000 in
theorem wide_trod {H : Type} {enc : TypeId × Value → H} {W : World} {n : Nat} {c0 c1 c2 c3 c4 : Value} {x : DataW H × List MemPlace} (hf : DataW.trod enc Try.prog W 0 (fun _ => true) true n 25 [c0, c1, c2, c3, c4] = some x) :
   ∃ (s : Bool) (a b c e : Nat) (z : Int), c0 = .bool s ∧ c1 = .int .u64 (a : Int) ∧ c2 = .int .u64 (b : Int) ∧ c3 = .int .u64 (c : Int) ∧ c4 = .int .u64 (e : Int) ∧ IsW s a b c e z := by
 obtain ⟨y0, y1, n, hx, hl, h0, h1⟩ := trod_struct2 Try.underlying25 hf
 simp only [cellsBool, cellsArr] at h0 h1
 have h0 : DataW.trod enc Try.prog W 0 (fun _ => true) true n 4 [c0] = some y0 := h0
 have h1 : DataW.trod enc Try.prog W 0 (fun _ => true) true n 23 [c1, c2, c3, c4] = some y1 := h1
 obtain ⟨s, hs, _⟩ := DataW.trod_bool Try.underlying4 h0
 obtain ⟨xs, m, _, _, _, hlen, he⟩ := DataW.trod_array Try.underlying23 h1
 obtain ⟨x0, x1, x2, x3, rfl⟩ : ∃ x0 x1 x2 x3, xs = [x0, x1, x2, x3] := by
   match xs, hlen with
   | [x0, x1, x2, x3], _ => exact ⟨x0, x1, x2, x3, rfl⟩
 have e0 := he 0 (by omega)
 have e1 := he 1 (by omega)
 have e2 := he 2 (by omega)
 have e3 := he 3 (by omega)
 rw [cellsWord] at e0 e1 e2 e3
 obtain ⟨a, rfl, ha⟩ := word_of (show DataW.trod enc Try.prog W 0 (fun _ => true) true m 22 [c1] = some x0 from e0)
 obtain ⟨b, rfl, hb⟩ := word_of (show DataW.trod enc Try.prog W 0 (fun _ => true) true m 22 [c2] = some x1 from e1)
 obtain ⟨c, rfl, hc⟩ := word_of (show DataW.trod enc Try.prog W 0 (fun _ => true) true m 22 [c3] = some x2 from e2)
 obtain ⟨e, rfl, hd⟩ := word_of (show DataW.trod enc Try.prog W 0 (fun _ => true) true m 22 [c4] = some x3 from e3)
 obtain rfl : c0 = .bool s := by simpa using hs
 obtain ⟨z, hz⟩ := isW_of s a b c e ha hb hc hd
 exact ⟨s, a, b, c, e, z, rfl, rfl, rfl, rfl, rfl, hz⟩
end
section
open Go Go.RowKit
theorem i64_wrap (x : Int) : I64 (wrap64 x) := by unfold I64; simp only [wrap64]; omega
theorem t_int (B b : Nat) (W w : World) (hT : TapeOk B w b) (hW : Upd b W w) :
   Calls Try.prog 25 #[.pointer (some ⟨b, 0, none⟩)] w (NextPost B b I64 .i64 W) := by
 go_enter Try.func25, Try.ntmps25
 go_wp2_with (first
   | (go_at_call 11; refine (t_next' _ _ _ W _ ⟨by omega, by omega⟩ ‹_› ‹_›).mono ?_; rintro e w' ⟨u, rfl, hu, hT2, hB2⟩)
   | (go_at_call 41; refine (t_word' _ _ W _ ‹_› ‹_›).mono ?_; rintro e w' ⟨u, rfl, hu, hT2, hB2⟩))
 all_goals go_ret
 all_goals exact ⟨_, rfl, i64_wrap _, ‹_›, ‹_›⟩
end
section
open Go Go.ChangeShapes Go.WideShapes Go.ChangeAt Go.RowKit
def meR (t c lo hi : Int) (s : Bool) (a b d e : Nat) : Array Value := #[.int .i64 t, .int .i64 c, .int .i64 lo, .int .i64 hi, .bool s, .int .u64 (a : Int), .int .u64 (b : Int), .int .u64 (d : Int), .int .u64 (e : Int)]
section
variable {H : Type} {enc : TypeId × Value → H} {W : World}
theorem trod_struct5n {t : TypeId} {f0 f1 f2 f3 f4 : Field} {fuel : Nat} {cs : List Value} {x : DataW H × List MemPlace} (ht : Try.prog.underlying t = some (.struct #[f0, f1, f2, f3, f4])) (h : DataW.trod enc Try.prog W 0 (fun _ => true) true fuel t cs = some x) :
   ∃ y0 y1 y2 y3 y4 n, DataW.trod enc Try.prog W 0 (fun _ => true) true n f0.type ((cs.drop f0.offset).take (Try.prog.cellsOf f0.type)) = some y0 ∧ DataW.trod enc Try.prog W 0 (fun _ => true) true n f1.type ((cs.drop f1.offset).take (Try.prog.cellsOf f1.type)) = some y1 ∧ DataW.trod enc Try.prog W 0 (fun _ => true) true n f2.type ((cs.drop f2.offset).take (Try.prog.cellsOf f2.type)) = some y2 ∧ DataW.trod enc Try.prog W 0 (fun _ => true) true n f3.type ((cs.drop f3.offset).take (Try.prog.cellsOf f3.type)) = some y3 ∧ DataW.trod enc Try.prog W 0 (fun _ => true) true n f4.type ((cs.drop f4.offset).take (Try.prog.cellsOf f4.type)) = some y4 := by
 obtain ⟨xs, n, _, rfl, hl, hlen, hf⟩ := DataW.trod_struct ht h
 match xs, hlen with
 | [y0, y1, y2, y3, y4], _ => exact ⟨y0, y1, y2, y3, y4, n, by simpa using hf 0 f0 rfl, by simpa using hf 1 f1 rfl, by simpa using hf 2 f2 rfl, by simpa using hf 3 f3 rfl, by simpa using hf 4 f4 rfl⟩
theorem array9n {α : Type} {cs : Array α} (h : cs.size = 9) : ∃ c0 c1 c2 c3 c4 c5 c6 c7 c8, cs = #[c0, c1, c2, c3, c4, c5, c6, c7, c8] := by
 obtain ⟨l⟩ := cs
 match l, h with
 | [c0, c1, c2, c3, c4, c5, c6, c7, c8], _ => exact ⟨c0, c1, c2, c3, c4, c5, c6, c7, c8, rfl⟩
theorem cellsMean : Try.prog.cellsOf 27 = 9 := by kernel_rfl
theorem cellsI64n : Try.prog.cellsOf 2 = 1 := by kernel_rfl
theorem cellsIntn : Try.prog.cellsOf 3 = 1 := by kernel_rfl
theorem cellsWideN : Try.prog.cellsOf 25 = 5 := by kernel_rfl
theorem i64_trodn {t : TypeId} (ht : Try.prog.underlying t = some (.int .i64)) {n : Nat} {c : Value} {x : DataW H × List MemPlace} (h : DataW.trod enc Try.prog W 0 (fun _ => true) true n t [c] = some x) : ∃ i : Int, c = .int .i64 i ∧ I64 i := by
 obtain ⟨i, hc, _, hw⟩ := DataW.trod_int ht h
 obtain rfl : c = .int .i64 i := by simpa using hc
 exact ⟨i, rfl, bounds_i64 hw⟩
set_option maxRecDepth 100000 in
theorem mean_open {base : Nat} {v : Value} {d : DataW H} {p : List MemPlace} (hv : Value.okWide Try.prog W .any base 27 v) (h : DataW.Trod enc Try.prog W 0 (fun _ => true) true 27 v d p) : ∃ (t c lo hi : Int) (s : Bool) (a b d e : Nat) (z : Int), v = .agg (meR t c lo hi s a b d e) ∧ I64 t ∧ I64 c ∧ I64 lo ∧ I64 hi ∧ IsW s a b d e z := by
 obtain ⟨cs, rfl, hsz⟩ := okWide_struct Try.underlying27 hv
 obtain ⟨a0, a1, a2, a3, a4, a5, a6, a7, a8, rfl⟩ := array9n (hsz.trans cellsMean)
 obtain ⟨fuel, hf⟩ := h
 obtain ⟨y0, y1, y2, y3, y4, n, h0, h1, h2, h3, h4⟩ := trod_struct5n Try.underlying27 hf
 simp only [cellsI64n, cellsIntn, cellsWideN] at h0 h1 h2 h3 h4
 obtain ⟨i0, rfl, j0⟩ := i64_trodn Try.underlying2 (show DataW.trod enc Try.prog W 0 (fun _ => true) true n 2 [a0] = some y0 from h0)
 obtain ⟨i1, rfl, j1⟩ := i64_trodn Try.underlying3 (show DataW.trod enc Try.prog W 0 (fun _ => true) true n 3 [a1] = some y1 from h1)
 obtain ⟨i2, rfl, j2⟩ := i64_trodn Try.underlying2 (show DataW.trod enc Try.prog W 0 (fun _ => true) true n 2 [a2] = some y2 from h2)
 obtain ⟨i3, rfl, j3⟩ := i64_trodn Try.underlying2 (show DataW.trod enc Try.prog W 0 (fun _ => true) true n 2 [a3] = some y3 from h3)
 obtain ⟨s, a, b, c, e, z, rfl, rfl, rfl, rfl, rfl, hz⟩ := wide_trod (show DataW.trod enc Try.prog W 0 (fun _ => true) true n 25 [a4, a5, a6, a7, a8] = some y4 from h4)
 exact ⟨i0, i1, i2, i3, s, a, b, c, e, z, rfl, j0, j1, j2, j3, hz⟩
end
end
section
open Go Go.RowKit
def cmpI (x y : Int) : Int := if x < y then -1 else if y < x then 1 else 0
theorem cmp_sign {x y : Int} : (x.sign < y.sign → cmpI x y = -1) ∧ (y.sign < x.sign → cmpI x y = 1) ∧ (x.sign = y.sign → cmpI x y = x.sign * sgnN x.natAbs y.natAbs) := by
 have hx : x < 0 ∧ x.sign = -1 ∨ x = 0 ∧ x.sign = 0 ∨ 0 < x ∧ x.sign = 1 := by
   rcases Int.lt_trichotomy x 0 with h | h | h
   · exact Or.inl ⟨h, Int.sign_eq_neg_one_of_neg h⟩
   · subst h; exact Or.inr (Or.inl ⟨rfl, rfl⟩)
   · exact Or.inr (Or.inr ⟨h, Int.sign_eq_one_of_pos h⟩)
 have hy : y < 0 ∧ y.sign = -1 ∨ y = 0 ∧ y.sign = 0 ∨ 0 < y ∧ y.sign = 1 := by
   rcases Int.lt_trichotomy y 0 with h | h | h
   · exact Or.inl ⟨h, Int.sign_eq_neg_one_of_neg h⟩
   · subst h; exact Or.inr (Or.inl ⟨rfl, rfl⟩)
   · exact Or.inr (Or.inr ⟨h, Int.sign_eq_one_of_pos h⟩)
 unfold cmpI sgnN
 rcases hx with ⟨h1, h2⟩ | ⟨h1, h2⟩ | ⟨h1, h2⟩ <;> rcases hy with ⟨k1, k2⟩ | ⟨k1, k2⟩ | ⟨k1, k2⟩ <;> rw [h2, k2] <;> refine ⟨fun h => ?_, fun h => ?_, fun h => ?_⟩ <;> (try omega) <;> (repeat' split) <;> omega
set_option maxHeartbeats 16000000 in
theorem ref_compare (s t : Bool) (a b c d e f g h : Nat) (x y : Int) (w : World) (hx : IsW s a b c d x) (hy : IsW t e f g h y) :
   Calls Try.prog 58 #[.agg #[.bool s, .int .u64 (a : Int), .int .u64 (b : Int), .int .u64 (c : Int), .int .u64 (d : Int)], .agg #[.bool t, .int .u64 (e : Int), .int .u64 (f : Int), .int .u64 (g : Int), .int .u64 (h : Int)]] w (IntRet .i64 (cmpI x y) w) := by
 obtain ⟨W, hW⟩ : ∃ W, W = ((w.alloc (.cells #[.bool s, .int .u64 (a : Int), .int .u64 (b : Int), .int .u64 (c : Int), .int .u64 (d : Int)] 25)).alloc (.cells #[.bool t, .int .u64 (e : Int), .int .u64 (f : Int), .int .u64 (g : Int), .int .u64 (h : Int)] 25)) := ⟨_, rfl⟩
 have H3 := two_blocks w (.cells #[.bool s, .int .u64 (a : Int), .int .u64 (b : Int), .int .u64 (c : Int), .int .u64 (d : Int)] 25) (.cells #[.bool t, .int .u64 (e : Int), .int .u64 (f : Int), .int .u64 (g : Int), .int .u64 (h : Int)] 25)
 rw [← hW] at H3
 have B0 : Box W w.heap.size s a b c d := H3.1
 have B1 : Box W (w.heap.size + 1) t e f g h := H3.2
 have E0 : Ext w W := by rw [hW]; exact (ext_alloc _ _).trans (ext_alloc _ _)
 have HW := hide hW
 clear hW H3
 obtain ⟨ha, hb, hc, hd, hxz⟩ := id hx
 obtain ⟨he, hf, hg, hh, hyz⟩ := id hy
 have MX : Hid (mag4 a b c d = x.natAbs) := by unfold Hid; cases s <;> simp at hxz <;> omega
 have MY : Hid (mag4 e f g h = y.natAbs) := by unfold Hid; cases t <;> simp at hyz <;> omega
 clear hxz hyz
 have CS := hide (@cmp_sign x y)
 obtain ⟨p, hp⟩ : ∃ p, x.sign = p := ⟨_, rfl⟩
 obtain ⟨q, hq⟩ : ∃ q, y.sign = q := ⟨_, rfl⟩
 have HP := hide hp
 have HQ := hide hq
 clear hp hq
 go_enter Try.func58, Try.ntmps58
 go_upto_region 1 with fail
 rw [← HW.out]
 clear HW
 obtain ⟨c0, c1, c2, c3, c4, f0, f1, f2, f3, f4⟩ := five_cells B0
 obtain ⟨d0, d1, d2, d3, d4, g0, g1, g2, g3, g4⟩ := five_cells B1
 go_cut [5, 6] (fun s5 s6 wx => s5 = .int .i64 p ∧ s6 = .int .i64 q ∧ Box wx w.heap.size s a b c d ∧ Box wx (w.heap.size + 1) t e f g h ∧ Ext w wx)
 case first =>
   go_region_with (first
     | (go_at_call_of 45 (Value.bool s); refine (ref_sign s a b c d x _ hx).mono ?_; rintro e' w' ⟨rfl, hE⟩; rw [HP.out]; have R0 := B0.drew.ext hE; have R1 := B1.drew.ext hE; have E1 := (E0.trans (ext_drew _)).trans hE; obtain ⟨d0, d1, d2, d3, d4, g0, g1, g2, g3, g4⟩ := five_cells R1)
     | (go_at_call_of 45 (Value.bool t); refine (ref_sign t e f g h y _ hy).mono ?_; rintro e' w' ⟨rfl, hE⟩; rw [HQ.out]; have R0' := R0.ext hE; have R1' := R1.ext hE; have E1' := E1.trans hE))
   all_goals go_wp2_with fail
   all_goals go_meet
   all_goals exact ⟨rfl, rfl, R0', R1', E1'⟩
 case rest =>
   clear B0 B1 E0 c0 c1 c2 c3 c4 f0 f1 f2 f3 f4 d0 d1 d2 d3 d4 g0 g1 g2 g3 g4
   obtain ⟨rfl, rfl, B0, B1, E0⟩ := hcut
   rcases (by omega : p < q ∨ q < p ∨ p = q) with hpq | hpq | hpq
   · have HR : Hid (cmpI x y = -1) := CS.out.1 (by rw [HP.out, HQ.out]; exact hpq)
     go_wp2
     go_ret
     exact ⟨rb1 HR.out.symm, E0⟩
   · have HR : Hid (cmpI x y = 1) := CS.out.2.1 (by rw [HP.out, HQ.out]; exact hpq)
     go_wp2
     go_ret
     exact ⟨rb1 HR.out.symm, E0⟩
   · subst hpq
     have HR : Hid (cmpI x y = p * sgnN x.natAbs y.natAbs) := by rw [← HP.out]; exact CS.out.2.2 (by rw [HP.out, HQ.out])
     obtain ⟨r, hr⟩ : ∃ r, sgnN x.natAbs y.natAbs = r := ⟨_, rfl⟩
     have hr1 : -1 ≤ r ∧ r ≤ 1 := by rw [← hr]; unfold sgnN; split <;> (try split) <;> omega
     have hp1 : p = -1 ∨ p = 0 ∨ p = 1 := by
       rw [← HP.out]
       rcases Int.lt_trichotomy x 0 with h | h | h
       · exact Or.inl (Int.sign_eq_neg_one_of_neg h)
       · subst h; exact Or.inr (Or.inl rfl)
       · exact Or.inr (Or.inr (Int.sign_eq_one_of_pos h))
     have HS := hide hr
     have HT : Hid (wrap64 (p * r) = cmpI x y) := by rw [HR.out, hr]; rcases hp1 with rfl | rfl | rfl <;> simp [Hid, wrap64] <;> omega
     clear hr hr1 hp1
     obtain ⟨c0, c1, c2, c3, c4, f0, f1, f2, f3, f4⟩ := five_cells B0
     obtain ⟨d0, d1, d2, d3, d4, g0, g1, g2, g3, g4⟩ := five_cells B1
     go_wp2
     go_region_with (first
       | (go_at_call_of 30 (Value.bool s); refine (of_any w.heap.size s a b c d _ (E0.trans (ext_drew _)).size ha hb hc hd).mono ?_; rintro e' w' ⟨v6, rfl, hv6, hE⟩; rw [MX.out] at hv6; have R1 := B1.drew.ext hE; obtain ⟨d0, d1, d2, d3, d4, g0, g1, g2, g3, g4⟩ := five_cells R1; have E1 := (E0.trans (ext_drew _)).trans hE)
       | (go_at_call_of 30 (Value.bool t); refine (of_any w.heap.size t e f g h _ E1.size he hf hg hh).mono ?_; rintro e' w' ⟨v7, rfl, hv7, hE⟩; rw [MY.out] at hv7; have hv6' := hv6.ext hE; have E2 := E1.trans hE)
       | (go_at_call 33; refine (compare_any _ _ _ _ _ _ _ hv6' hv7).mono ?_; rintro e' w' ⟨rfl, hE⟩; rw [HS.out]; have E3 := E2.trans hE))
     all_goals go_wp2_with fail
     all_goals go_ret
     all_goals exact ⟨rb1 (by first | exact HT.out | (rw [← HT.out, ← IntKind.wrap_i64]; rfl) | (rw [← HT.out]; simp only [wrap64, IntKind.wrap_i64])), E3⟩
end
section
open Go Go.RowKit
theorem p4 : 18446744073709551616 ^ 4 = 115792089237316195423570985008687907853269984665640564039457584007913129639936 := by decide
def WordsRet (n : Nat) (o : Bool) (w : World) (e : Ending) (w' : World) : Prop := ∃ a b c d : Nat, e = .returned (.tuple #[.agg #[.int .u64 (a : Int), .int .u64 (b : Int), .int .u64 (c : Int), .int .u64 (d : Int)], .bool o]) ∧ W64 [a, b, c, d] ∧ mag4 a b c d = n ∧ Ext w w'
def WordsOnly (n : Nat) (w : World) (e : Ending) (w' : World) : Prop := ∃ a b c d : Nat, e = .returned (.agg #[.int .u64 (a : Int), .int .u64 (b : Int), .int .u64 (c : Int), .int .u64 (d : Int)]) ∧ W64 [a, b, c, d] ∧ mag4 a b c d = n ∧ Ext w w'
theorem three_words (w : World) (a b c d e f g h : Nat) (T : TypeId) : ∃ W, (((w.alloc (.cells #[.int .u64 (a : Int), .int .u64 (b : Int), .int .u64 (c : Int), .int .u64 (d : Int)] 107)).alloc (.cells #[.int .u64 (e : Int), .int .u64 (f : Int), .int .u64 (g : Int), .int .u64 (h : Int)] 107)).alloc (.cells #[.int .u64 0, .int .u64 0, .int .u64 0, .int .u64 0] T)) = W ∧
   Arr W w.heap.size 107 [a, b, c, d] ∧ Arr W (w.heap.size + 1) 107 [e, f, g, h] ∧ Arr W (w.heap.size + 1 + 1) T [0, 0, 0, 0] ∧ Ext w W := by
 have h := three_boxes w (.cells #[.int .u64 (a : Int), .int .u64 (b : Int), .int .u64 (c : Int), .int .u64 (d : Int)] 107) (.cells #[.int .u64 (e : Int), .int .u64 (f : Int), .int .u64 (g : Int), .int .u64 (h : Int)] 107) (.cells #[.int .u64 0, .int .u64 0, .int .u64 0, .int .u64 0] T)
 exact ⟨_, rfl, h.1, h.2.1, h.2.2, ((ext_alloc _ _).trans (ext_alloc _ _)).trans (ext_alloc _ _)⟩
theorem ext_four {W w : World} (h : Ext W w) {b : Nat} (hb : W.heap.size ≤ b) (u0 u1 u2 u3 : Value) : Ext W ((((w.setCell ⟨b, 0, none⟩ u0).setCell ⟨b, 1, none⟩ u1).setCell ⟨b, 2, none⟩ u2).setCell ⟨b, 3, none⟩ u3) :=
 ext_set (ext_set (ext_set (ext_set h hb _ _) hb _ _) hb _ _) hb _ _
set_option maxHeartbeats 1000000 in
theorem p_addWords (a b c d e f g h n m : Nat) (hn : mag4 a b c d = n) (hm : mag4 e f g h = m) (w : World) (hw : W64 [a, b, c, d]) (hw' : W64 [e, f, g, h]) :
   Calls Try.prog 86 #[.agg #[.int .u64 (a : Int), .int .u64 (b : Int), .int .u64 (c : Int), .int .u64 (d : Int)], .agg #[.int .u64 (e : Int), .int .u64 (f : Int), .int .u64 (g : Int), .int .u64 (h : Int)]] w
     (WordsRet ((n + m) % 115792089237316195423570985008687907853269984665640564039457584007913129639936) (decide (n + m < 115792089237316195423570985008687907853269984665640564039457584007913129639936)) w) := by
 obtain ⟨W, hW, A0, A1, A2, E0⟩ := three_words w a b c d e f g h 107
 obtain ⟨o, ho⟩ : ∃ o, decide (n + m < 115792089237316195423570985008687907853269984665640564039457584007913129639936) = o := ⟨_, rfl⟩
 have HW := hide hW
 have HN := hide hn
 have HM := hide hm
 have HO := hide ho
 rw [ho]
 clear hW hn hm ho
 go_enter Try.func86, Try.ntmps86
 go_upto_region 1 with fail
 rw [HW.out]
 clear HW
 go_region_with (go_at_call 95; refine (p_addTo w.heap.size 0 4 4 (w.heap.size + 1) 0 4 4 107 [] [a, b, c, d] [] [e, f, g, h] _ A0.drew rfl rfl rfl ((show Arr W _ _ ([] ++ [e, f, g, h] ++ []) from A1).reads rfl |>.ext (ext_drew _)) (by omega) (by omega) (by omega) hw hw').mono ?_; rintro e' w' ⟨c', os, rfl, hc', hl, hws, hv, hA', hU⟩; obtain ⟨a1, b1, c1, d1, rfl⟩ := four_list hl; have B0 : Arr w' w.heap.size 107 [a1, b1, c1, d1] := hA'; have B2 := A2.drew.upd hU (by omega); have E1 := hU.ext (E0.trans (ext_drew _)) (Nat.le_refl _); have HV := hide hv; clear hv hA' hU; obtain ⟨c0, c1', c2, c3, f0, f1, f2, f3⟩ := B0.four; obtain ⟨d0, d1', d2, d3, g0, g1, g2, g3⟩ := B2.four)
 all_goals go_wp2_with fail
 all_goals refine bodyPost_ret (v := .tuple #[.agg #[.int .u64 (a1 : Int), .int .u64 (b1 : Int), .int .u64 (c1 : Int), .int .u64 (d1 : Int)], .bool ((c' : Int) == 0)]) (by simp [results, Try.results86, go_sem, d0, d1', d2, d3]) rfl ⟨a1, b1, c1, d1, ?_, hws, ?_, ext_four E1 (by omega) _ _ _ _⟩
 · have h1 : val [a1, b1, c1, d1] + 115792089237316195423570985008687907853269984665640564039457584007913129639936 * c' = n + m := by have hv := HV.out; rw [p4] at hv; rw [← HN.out, ← HM.out]; exact hv
   have h2 : val [a1, b1, c1, d1] < 115792089237316195423570985008687907853269984665640564039457584007913129639936 := by have h2 := val_lt _ hws; rw [hl, p4] at h2; exact h2
   have e : ((c' : Int) == 0) = o := by
     rw [← HO.out]
     rcases (by omega : c' = 0 ∨ c' = 1) with h0 | h0
     · rw [decide_eq_true (by omega), h0]; rfl
     · rw [decide_eq_false (by omega), h0]; rfl
   rw [e]
 · have h1 : val [a1, b1, c1, d1] + 115792089237316195423570985008687907853269984665640564039457584007913129639936 * c' = n + m := by have hv := HV.out; rw [p4] at hv; rw [← HN.out, ← HM.out]; exact hv
   have h2 : val [a1, b1, c1, d1] < 115792089237316195423570985008687907853269984665640564039457584007913129639936 := by have h2 := val_lt _ hws; rw [hl, p4] at h2; exact h2
   have h3 : mag4 a1 b1 c1 d1 = val [a1, b1, c1, d1] := rfl
   rw [h3, ← h1, Nat.add_mul_mod_self_left, Nat.mod_eq_of_lt h2]
set_option maxHeartbeats 1000000 in
theorem p_subWords (a b c d e f g h n m : Nat) (hn : mag4 a b c d = n) (hm : mag4 e f g h = m) (w : World) (hw : W64 [a, b, c, d]) (hw' : W64 [e, f, g, h]) (hle : m ≤ n) :
   Calls Try.prog 87 #[.agg #[.int .u64 (a : Int), .int .u64 (b : Int), .int .u64 (c : Int), .int .u64 (d : Int)], .agg #[.int .u64 (e : Int), .int .u64 (f : Int), .int .u64 (g : Int), .int .u64 (h : Int)]] w (WordsOnly (n - m) w) := by
 obtain ⟨W, hW, A0, A1, A2, E0⟩ := three_words w a b c d e f g h 107
 obtain ⟨L, hL⟩ : ∃ L, L = [a, b, c, d] := ⟨_, rfl⟩
 obtain ⟨M, hM⟩ : ∃ M, M = [e, f, g, h] := ⟨_, rfl⟩
 have HL : Hid (L.length = 4) := by rw [hL]; exact rfl
 have HM : Hid (M.length = 4) := by rw [hM]; exact rfl
 have VL : Hid (val L = n) := by rw [hL]; exact hn
 have VM : Hid (val M = m) := by rw [hM]; exact hm
 rw [← hL] at A0 hw
 rw [← hM] at A1 hw'
 have HW := hide hW
 clear hW hn hm hL hM
 go_enter Try.func87, Try.ntmps87
 go_wp2_with fail
 rw [HW.out]
 clear HW
 go_loopw [7, 5] (fun i t wr => ∃ (k c : Nat) (os : List Nat), i = .int .i64 k ∧ t = .int .u64 c ∧ k ≤ 4 ∧ c ≤ 1 ∧ Hid (SubRel L M os k c) ∧ W64 os ∧ Arr wr w.heap.size 107 os ∧ Upd w.heap.size W wr) (fun i _ _ => 4 - (intOf i).toNat)
 case atStart => exact ⟨0, 0, L, rfl, rfl, by omega, by omega, ⟨rfl, rfl, by omega, by simp [val]⟩, hw, A0, Upd.refl _ _⟩
 case round =>
   obtain ⟨k, c, os, rfl, rfl, hk, hc, HR, wo, hA, hU⟩ := hrel
   have HO : Hid (os.length = 4) := HR.out.1.trans HL.out
   have B1 := A1.upd hU (by omega)
   by_cases hk4 : k < 4
   · have hkn : k < os.length := by rw [HO.out]; omega
     have cg := hA.at k hkn
     have fg := hA.free k
     have cb := B1.at k (by rw [HM.out]; omega)
     obtain ⟨x, hx⟩ : ∃ x, os[k] = x := ⟨_, rfl⟩
     obtain ⟨y, hy⟩ : ∃ y, M[k]'(by rw [HM.out]; omega) = y := ⟨_, rfl⟩
     rw [hx] at cg
     rw [hy] at cb
     have HX : Hid (x = L[k]'(by rw [HL.out]; omega)) := by rw [← hx]; exact (drop_get HR.out.2.1 hkn (by rw [HL.out]; omega)).1
     have HY : Hid (M.getD k 0 = y) := by rw [← hy]; simp [Hid, List.getD, show k < M.length by rw [HM.out]; omega]
     clear hx hy
     have hadd := sub64_run x y c hc
     have HS : Hid (SubRel L M (os.set k ((x + 18446744073709551616 - y - c) % 18446744073709551616)) (k + 1) (if x < y + c then 1 else 0)) := by
       have := HR.out.step (by rw [HL.out]; omega) hw hw'
       rw [← HX.out, HY.out] at this
       exact this
     have HA := hide (hA.set k ((x + 18446744073709551616 - y - c) % 18446744073709551616))
     have HU := hide (hU.set k (.int .u64 (((x + 18446744073709551616 - y - c) % 18446744073709551616 : Nat) : Int)))
     have w2 := w64_set wo k ((x + 18446744073709551616 - y - c) % 18446744073709551616) (by omega)
     go_wp2
     go_region
     go_wp2
     exact ⟨⟨k + 1, _, _, by go_num, by (first | rfl | go_num | simp), by omega, HS.out.2.2.1, HS, w2, HA.out, HU.out.drew⟩, by first | (simp [intOf]; done) | (simp [intOf]; omega)⟩
   · obtain rfl : k = 4 := by omega
     have H1 : Hid (val os = n - m) := by
       have h1 := HR.out
       rw [show 4 = L.length from HL.out.symm] at h1
       have := h1.done (by rw [HM.out, HL.out]; omega) wo (by rw [VL.out, VM.out]; exact hle)
       rwa [VL.out, VM.out] at this
     have B2 := A2.upd hU (by omega)
     have E1 := hU.ext E0 (Nat.le_refl _)
     obtain ⟨a1, b1, c1, d1, rfl⟩ := four_list HO.out
     obtain ⟨c0, c1', c2, c3, f0, f1, f2, f3⟩ := hA.four
     obtain ⟨d0, d1', d2, d3, g0, g1, g2, g3⟩ := B2.four
     clear hU hA B2 B1
     go_wp2
     exact bodyPost_ret (v := .agg #[.int .u64 (a1 : Int), .int .u64 (b1 : Int), .int .u64 (c1 : Int), .int .u64 (d1 : Int)]) (by simp [results, Try.results87, go_sem, d0, d1', d2, d3]) rfl ⟨a1, b1, c1, d1, rfl, wo, H1.out, ext_four E1 (by omega) _ _ _ _⟩
open Go Go.RowKit
theorem IsW.w64 {s : Bool} {a b c d : Nat} {z : Int} (h : IsW s a b c d z) : W64 [a, b, c, d] := by
 obtain ⟨ha, hb, hc, hd, _⟩ := h
 intro x hx; simp at hx; omega
theorem IsW.abs {s : Bool} {a b c d : Nat} {z : Int} (h : IsW s a b c d z) : mag4 a b c d = z.natAbs := by
 obtain ⟨_, _, _, _, hz⟩ := h
 cases s <;> simp at hz <;> omega
theorem w64_four {a b c d : Nat} (h : W64 [a, b, c, d]) : a < 18446744073709551616 ∧ b < 18446744073709551616 ∧ c < 18446744073709551616 ∧ d < 18446744073709551616 :=
 ⟨h a (by simp), h b (by simp), h c (by simp), h d (by simp)⟩
theorem p_sign (s : Bool) (a b c d : Nat) (z : Int) (w : World) (h : IsW s a b c d z) :
   Calls Try.prog 81 #[.agg #[.bool s, .int .u64 (a : Int), .int .u64 (b : Int), .int .u64 (c : Int), .int .u64 (d : Int)]] w (IntRet .i64 z.sign w) := by
 obtain ⟨o, ho⟩ : ∃ o, decide (mag4 a b c d ≠ 0) = o := ⟨_, rfl⟩
 have hq := eql0 23 Try.underlying23 a b c d o ho
 have hz := h.2.2.2.2
 cases o
 · have hS : Hid (z.sign = 0) := by
     have : mag4 a b c d = 0 := by simpa using ho
     rw [this] at hz; cases s <;> simp at hz <;> subst hz <;> rfl
   clear ho hz
   go_enter Try.func81, Try.ntmps81
   go_wp2
   go_ret
   exact ⟨rb1 hS.out.symm, ext_alloc _ _⟩
 · have hp : mag4 a b c d ≠ 0 := by simpa using ho
   cases s
   · have hS : Hid (z.sign = 1) := Int.sign_eq_one_of_pos (by simp at hz; omega)
     clear ho hz hp
     go_enter Try.func81, Try.ntmps81
     go_wp2
     go_ret
     exact ⟨rb1 hS.out.symm, ext_alloc _ _⟩
   · have hS : Hid (z.sign = -1) := Int.sign_eq_neg_one_of_neg (by simp at hz; omega)
     clear ho hz hp
     go_enter Try.func81, Try.ntmps81
     go_wp2
     go_ret
     exact ⟨rb1 hS.out.symm, ext_alloc _ _⟩
theorem p_ofu (n : Nat) (w : World) (hn : n < 18446744073709551616) : Calls Try.prog 79 #[.int .u64 (n : Int)] w (WideOnly n w) := by
 have HX := hide (ext_alloc w (.cells #[.bool false, .int .u64 0, .int .u64 0, .int .u64 0, .int .u64 0] 25))
 have hM : Hid (((mag4 n 0 0 0 : Nat) : Int) = n) := by simp [Hid, mag4, val]
 have hs := fun W => p_signed false n 0 0 0 W hn (by omega) (by omega) (by omega)
 go_enter Try.func79, Try.ntmps79
 go_wp2_with (go_at_call 78; refine (hs _).mono ?_; rintro e' w' ⟨s', a', b', c', d', rfl, hC, hE⟩; simp only [Bool.false_eq_true, if_false] at hC; rw [hM.out] at hC; have q1 := one_kept hE; obtain ⟨d0, d1, d2, d3, d4, g0, g1, g2, g3, g4⟩ := five_cells q1; have HE := hide (HX.out.trans hE); clear q1 hE)
 exact bodyPost_ret (v := .agg #[.bool s', .int .u64 (a' : Int), .int .u64 (b' : Int), .int .u64 (c' : Int), .int .u64 (d' : Int)]) (by simp [results, Try.results79, go_sem, d0, d1, d2, d3, d4]) rfl ⟨s', a', b', c', d', rfl, hC, ext_five HE.out (Nat.le_refl _) _ _ _ _ _⟩
theorem p_ofi (z : Int) (w : World) (h1 : -9223372036854775808 ≤ z) (h2 : z ≤ 9223372036854775807) : Calls Try.prog 68 #[.int .i64 z] w (WideOnly z w) := by
 obtain ⟨n, hn⟩ : ∃ n, z.natAbs = n := ⟨_, rfl⟩
 have hb : n < 18446744073709551616 := by omega
 have hneg : z < 0 → IntKind.u64.wrap (-IntKind.u64.wrap z) = (n : Int) := by intro h; simp only [IntKind.wrap_u64]; omega
 have hpos : 0 ≤ z → IntKind.u64.wrap z = (n : Int) := by intro h; simp only [IntKind.wrap_u64]; omega
 have HX := hide (ext_alloc w (.cells #[.bool false, .int .u64 0, .int .u64 0, .int .u64 0, .int .u64 0] 25))
 by_cases h : z < 0
 · have e := hneg h
   have hM : Hid (-((mag4 n 0 0 0 : Nat) : Int) = z) := by simp [Hid, mag4, val]; omega
   have hs := fun W => p_signed true n 0 0 0 W hb (by omega) (by omega) (by omega)
   clear hneg hpos hn
   go_enter Try.func68, Try.ntmps68
   go_wp2_with (go_at_call 78; refine (hs _).mono ?_; rintro e' w' ⟨s', a', b', c', d', rfl, hC, hE⟩; simp only [if_true] at hC; rw [hM.out] at hC; have q1 := one_kept hE; obtain ⟨d0, d1, d2, d3, d4, g0, g1, g2, g3, g4⟩ := five_cells q1; have HE := hide (HX.out.trans hE); clear q1 hE)
   exact bodyPost_ret (v := .agg #[.bool s', .int .u64 (a' : Int), .int .u64 (b' : Int), .int .u64 (c' : Int), .int .u64 (d' : Int)]) (by simp [results, Try.results68, go_sem, d0, d1, d2, d3, d4]) rfl ⟨s', a', b', c', d', rfl, hC, ext_five HE.out (Nat.le_refl _) _ _ _ _ _⟩
 · have e := hpos (by omega)
   have hM : Hid ((n : Int) = z) := by unfold Hid; omega
   clear hneg hpos hn
   go_enter Try.func68, Try.ntmps68
   go_wp2_with (go_at_call 79; refine (p_ofu n _ hb).mono ?_; rintro e' w' ⟨s', a', b', c', d', rfl, hC, hE⟩; rw [hM.out] at hC; have q1 := one_kept hE; obtain ⟨d0, d1, d2, d3, d4, g0, g1, g2, g3, g4⟩ := five_cells q1; have HE := hide (HX.out.trans hE); clear q1 hE)
   exact bodyPost_ret (v := .agg #[.bool s', .int .u64 (a' : Int), .int .u64 (b' : Int), .int .u64 (c' : Int), .int .u64 (d' : Int)]) (by simp [results, Try.results68, go_sem, d0, d1, d2, d3, d4]) rfl ⟨s', a', b', c', d', rfl, hC, ext_five HE.out (Nat.le_refl _) _ _ _ _ _⟩
open Go Go.RowKit
set_option maxHeartbeats 2000000 in
theorem p_compare (s t : Bool) (a b c d e f g h : Nat) (x y : Int) (w : World) (hx : IsW s a b c d x) (hy : IsW t e f g h y) :
   Calls Try.prog 70 #[.agg #[.bool s, .int .u64 (a : Int), .int .u64 (b : Int), .int .u64 (c : Int), .int .u64 (d : Int)], .agg #[.bool t, .int .u64 (e : Int), .int .u64 (f : Int), .int .u64 (g : Int), .int .u64 (h : Int)]] w (IntRet .i64 (cmpI x y) w) := by
 obtain ⟨W, hW⟩ : ∃ W, W = ((w.alloc (.cells #[.bool s, .int .u64 (a : Int), .int .u64 (b : Int), .int .u64 (c : Int), .int .u64 (d : Int)] 25)).alloc (.cells #[.bool t, .int .u64 (e : Int), .int .u64 (f : Int), .int .u64 (g : Int), .int .u64 (h : Int)] 25)) := ⟨_, rfl⟩
 have H3 := two_blocks w (.cells #[.bool s, .int .u64 (a : Int), .int .u64 (b : Int), .int .u64 (c : Int), .int .u64 (d : Int)] 25) (.cells #[.bool t, .int .u64 (e : Int), .int .u64 (f : Int), .int .u64 (g : Int), .int .u64 (h : Int)] 25)
 rw [← hW] at H3
 have B0 : Box W w.heap.size s a b c d := H3.1
 have B1 : Box W (w.heap.size + 1) t e f g h := H3.2
 have E0 : Ext w W := by rw [hW]; exact (ext_alloc _ _).trans (ext_alloc _ _)
 have HW := hide hW
 clear hW H3
 have MX := hide hx.abs
 have MY := hide hy.abs
 have wx := hx.w64
 have wy := hy.w64
 have HX := hide hx
 have HY := hide hy
 have CS := hide (@cmp_sign x y)
 obtain ⟨p, hp⟩ : ∃ p, x.sign = p := ⟨_, rfl⟩
 obtain ⟨q, hq⟩ : ∃ q, y.sign = q := ⟨_, rfl⟩
 have HP := hide hp
 have HQ := hide hq
 clear hp hq hx hy
 obtain ⟨c0, c1, c2, c3, c4, f0, f1, f2, f3, f4⟩ := five_cells B0
 obtain ⟨d0, d1, d2, d3, d4, g0, g1, g2, g3, g4⟩ := five_cells B1
 by_cases hpq : p = q
 · subst hpq
   have HR : Hid (cmpI x y = p * sgnN x.natAbs y.natAbs) := by rw [← HP.out]; exact CS.out.2.2 (by rw [HP.out, HQ.out])
   obtain ⟨r, hr⟩ : ∃ r, sgnN x.natAbs y.natAbs = r := ⟨_, rfl⟩
   have hr1 : -1 ≤ r ∧ r ≤ 1 := by rw [← hr]; unfold sgnN; split <;> (try split) <;> omega
   have hp1 : p = -1 ∨ p = 0 ∨ p = 1 := by
     rw [← HP.out]
     rcases Int.lt_trichotomy x 0 with h | h | h
     · exact Or.inl (Int.sign_eq_neg_one_of_neg h)
     · subst h; exact Or.inr (Or.inl rfl)
     · exact Or.inr (Or.inr (Int.sign_eq_one_of_pos h))
   have HS := hide hr
   have HT : Hid (wrap64 (p * r) = cmpI x y) := by rw [HR.out, hr]; rcases hp1 with rfl | rfl | rfl <;> simp [Hid, wrap64] <;> omega
   clear hr hr1 hp1
   go_enter Try.func70, Try.ntmps70
   go_upto_region 1 with fail
   rw [← HW.out]
   clear HW
   go_wp2_with (first
     | (go_at_call_of 81 (Value.agg #[Value.bool s, Value.int IntKind.u64 (a : Int), Value.int IntKind.u64 (b : Int), Value.int IntKind.u64 (c : Int), Value.int IntKind.u64 (d : Int)]); refine (p_sign s a b c d x _ HX.out).mono ?_; rintro e' w' ⟨rfl, hE⟩; rw [HP.out]; have R0 := B0.ext hE; have R1 := B1.ext hE; obtain ⟨c0, c1, c2, c3, c4, f0, f1, f2, f3, f4⟩ := five_cells R0; obtain ⟨d0, d1, d2, d3, d4, g0, g1, g2, g3, g4⟩ := five_cells R1; have E1 := E0.trans hE; clear hE)
     | (go_at_call 81; refine (p_sign t e f g h y _ HY.out).mono ?_; rintro e' w' ⟨rfl, hE⟩; rw [HQ.out]; have R0 := R0.ext hE; have R1 := R1.ext hE; obtain ⟨c0, c1, c2, c3, c4, f0, f1, f2, f3, f4⟩ := five_cells R0; obtain ⟨d0, d1, d2, d3, d4, g0, g1, g2, g3, g4⟩ := five_cells R1; have E1 := E1.trans hE; clear hE)
     | (go_at_call 83; refine (p_cmpWords a b c d e f g h _ _ MX.out MY.out _ wx wy).mono ?_; rintro e' w' ⟨rfl, hE⟩; rw [HS.out]; have E1 := E1.trans hE; clear hE))
   all_goals go_ret
   all_goals exact ⟨rb1 (by first | exact HT.out | (rw [← HT.out, ← IntKind.wrap_i64]; rfl) | (rw [← HT.out]; simp only [wrap64, IntKind.wrap_i64])), E1⟩
 · have hne : (p != q) = true := by simpa using hpq
   have HR : Hid (sgnI p q = cmpI x y) := by
     unfold Hid sgnI
     rcases (by omega : p < q ∨ q < p) with h1 | h1
     · rw [if_pos h1, CS.out.1 (by rw [HP.out, HQ.out]; exact h1)]
     · rw [if_neg (by omega), if_pos h1, CS.out.2.1 (by rw [HP.out, HQ.out]; exact h1)]
   clear hpq
   go_enter Try.func70, Try.ntmps70
   go_upto_region 1 with fail
   rw [← HW.out]
   clear HW
   go_wp2_with (first
     | (go_at_call_of 81 (Value.agg #[Value.bool s, Value.int IntKind.u64 (a : Int), Value.int IntKind.u64 (b : Int), Value.int IntKind.u64 (c : Int), Value.int IntKind.u64 (d : Int)]); refine (p_sign s a b c d x _ HX.out).mono ?_; rintro e' w' ⟨rfl, hE⟩; rw [HP.out]; have R0 := B0.ext hE; have R1 := B1.ext hE; obtain ⟨c0, c1, c2, c3, c4, f0, f1, f2, f3, f4⟩ := five_cells R0; obtain ⟨d0, d1, d2, d3, d4, g0, g1, g2, g3, g4⟩ := five_cells R1; have E1 := E0.trans hE; clear hE)
     | (go_at_call 81; refine (p_sign t e f g h y _ HY.out).mono ?_; rintro e' w' ⟨rfl, hE⟩; rw [HQ.out]; have R0 := R0.ext hE; have R1 := R1.ext hE; obtain ⟨c0, c1, c2, c3, c4, f0, f1, f2, f3, f4⟩ := five_cells R0; obtain ⟨d0, d1, d2, d3, d4, g0, g1, g2, g3, g4⟩ := five_cells R1; have E1 := E1.trans hE; clear hE)
     | (go_at_call 82; refine (c_cmpI p q _).mono ?_; rintro e' w' ⟨rfl, rfl⟩))
   all_goals go_ret
   all_goals exact ⟨rb1 HR.out, E1⟩
end
section
open Go Go.RowKit
theorem wideRet_yes {z : Int} {w w' : World} {s : Bool} {a b c d : Nat} (hf : z.natAbs < 115792089237316195423570985008687907853269984665640564039457584007913129639936) (hC : IsC s a b c d z) (hE : Ext w w') :
   WideRet z w (.returned (.tuple #[.agg #[.bool s, .int .u64 (a : Int), .int .u64 (b : Int), .int .u64 (c : Int), .int .u64 (d : Int)], .bool true])) w' :=
 ⟨s, a, b, c, d, true, rfl, (decide_eq_true hf).symm, by rw [if_pos hf]; exact hC, hE⟩
theorem wideRet_no {z : Int} {w w' : World} (hf : ¬ z.natAbs < 115792089237316195423570985008687907853269984665640564039457584007913129639936) (hE : Ext w w') :
   WideRet z w (.returned (.tuple #[.agg #[.bool false, .int .u64 0, .int .u64 0, .int .u64 0, .int .u64 0], .bool false])) w' :=
 ⟨false, 0, 0, 0, 0, false, rfl, (decide_eq_false hf).symm, by rw [if_neg hf]; exact ⟨⟨by omega, by omega, by omega, by omega, by simp [mag4, val]⟩, by simp⟩, hE⟩
theorem IsC.fits {s : Bool} {a b c d : Nat} {z : Int} (h : IsW s a b c d z) : z.natAbs < 115792089237316195423570985008687907853269984665640564039457584007913129639936 := by
 rw [← h.abs]; exact mag_lt h.1 h.2.1 h.2.2.1 h.2.2.2.1
set_option maxHeartbeats 4000000 in
theorem p_wadd_same (s : Bool) (a b c d e f g h : Nat) (x y : Int) (w : World) (hx : IsW s a b c d x) (hy : IsW s e f g h y) :
   Calls Try.prog 73 #[.agg #[.bool s, .int .u64 (a : Int), .int .u64 (b : Int), .int .u64 (c : Int), .int .u64 (d : Int)], .agg #[.bool s, .int .u64 (e : Int), .int .u64 (f : Int), .int .u64 (g : Int), .int .u64 (h : Int)]] w (WideRet (x + y) w) := by
 obtain ⟨W, hW⟩ : ∃ W, W = (((w.alloc (.cells #[.bool s, .int .u64 (a : Int), .int .u64 (b : Int), .int .u64 (c : Int), .int .u64 (d : Int)] 25)).alloc (.cells #[.bool s, .int .u64 (e : Int), .int .u64 (f : Int), .int .u64 (g : Int), .int .u64 (h : Int)] 25)).alloc (.cells #[.bool false, .int .u64 0, .int .u64 0, .int .u64 0, .int .u64 0] 25)) := ⟨_, rfl⟩
 have H3 := three_boxes w (.cells #[.bool s, .int .u64 (a : Int), .int .u64 (b : Int), .int .u64 (c : Int), .int .u64 (d : Int)] 25) (.cells #[.bool s, .int .u64 (e : Int), .int .u64 (f : Int), .int .u64 (g : Int), .int .u64 (h : Int)] 25) (.cells #[.bool false, .int .u64 0, .int .u64 0, .int .u64 0, .int .u64 0] 25)
 rw [← hW] at H3
 have B0 : Box W w.heap.size s a b c d := H3.1
 have B1 : Box W (w.heap.size + 1) s e f g h := H3.2.1
 have B2 : Box W (w.heap.size + 1 + 1) false 0 0 0 0 := H3.2.2
 have E0 : Ext w W := by rw [hW]; exact ((ext_alloc _ _).trans (ext_alloc _ _)).trans (ext_alloc _ _)
 have HW := hide hW
 clear hW H3
 obtain ⟨n, hn⟩ : ∃ n, x.natAbs = n := ⟨_, rfl⟩
 obtain ⟨m, hm⟩ : ∃ m, y.natAbs = m := ⟨_, rfl⟩
 have MX : Hid (mag4 a b c d = n) := by rw [← hn]; exact hx.abs
 have MY : Hid (mag4 e f g h = m) := by rw [← hm]; exact hy.abs
 have wx := hx.w64
 have wy := hy.w64
 have SZ : Hid ((if s then -((n + m : Nat) : Int) else ((n + m : Nat) : Int)) = x + y ∧ (x + y).natAbs = n + m) := by
   have h1 := hx.2.2.2.2
   have h2 := hy.2.2.2.2
   rw [MX.out] at h1
   rw [MY.out] at h2
   unfold Hid
   cases s <;> simp only [Bool.false_eq_true, if_false, if_true] at h1 h2 ⊢ <;> omega
 clear hn hm hx hy
 obtain ⟨c0, c1, c2, c3, c4, f0, f1, f2, f3, f4⟩ := five_cells B0
 obtain ⟨d0, d1, d2, d3, d4, g0, g1, g2, g3, g4⟩ := five_cells B1
 by_cases hf : n + m < 115792089237316195423570985008687907853269984665640564039457584007913129639936
 · have HO : Hid (decide (n + m < 115792089237316195423570985008687907853269984665640564039457584007913129639936) = true) := decide_eq_true hf
   have HM : Hid ((n + m) % 115792089237316195423570985008687907853269984665640564039457584007913129639936 = n + m) := Nat.mod_eq_of_lt hf
   have HF : Hid ((x + y).natAbs < 115792089237316195423570985008687907853269984665640564039457584007913129639936) := by rw [SZ.out.2]; exact hf
   clear hf
   go_enter Try.func73, Try.ntmps73
   go_upto_region 1 with fail
   rw [← HW.out]
   clear HW
   go_wp2_with (first
     | (go_at_call 86; refine (p_addWords a b c d e f g h n m MX.out MY.out _ wx wy).mono ?_; rintro e' w' ⟨a1, b1, c1', d1', rfl, hw1, hm1, hE⟩; rw [HO.out]; rw [HM.out] at hm1; have hm1 := hide hm1; have R0 := B0.ext hE; have R2 := B2.ext hE; obtain ⟨c0, c1, c2, c3, c4, f0, f1, f2, f3, f4⟩ := five_cells R0; have l0 := R0.lt; have l2 := R2.lt; have E1 := E0.trans hE; clear hE)
     | (go_at_call 78; refine (p_signed s a1 b1 c1' d1' _ (w64_four hw1).1 (w64_four hw1).2.1 (w64_four hw1).2.2.1 (w64_four hw1).2.2.2).mono ?_; rintro e' w' ⟨s', a', b', c', d', rfl, hC, hE⟩; rw [hm1.out, SZ.out.1] at hC; have E1 := (E1.trans (ext_alloc _ _)).trans hE; have R3 := (R2.ext (ext_alloc _ _)).ext hE; obtain ⟨d0, d1, d2, d3, d4, g0, g1, g2, g3, g4⟩ := five_cells R3; clear hE))
   all_goals exact bodyPost_ret (v := .tuple #[.agg #[.bool s', .int .u64 (a' : Int), .int .u64 (b' : Int), .int .u64 (c' : Int), .int .u64 (d' : Int)], .bool true]) (by simp [results, Try.results73, go_sem, d0, d1, d2, d3, d4]) rfl (wideRet_yes HF.out hC (ext_five E1 (by omega) _ _ _ _ _))
 · have HO : Hid (decide (n + m < 115792089237316195423570985008687907853269984665640564039457584007913129639936) = false) := decide_eq_false hf
   have HF : Hid (¬ (x + y).natAbs < 115792089237316195423570985008687907853269984665640564039457584007913129639936) := by rw [SZ.out.2]; exact hf
   clear hf
   go_enter Try.func73, Try.ntmps73
   go_upto_region 1 with fail
   rw [← HW.out]
   clear HW
   go_wp2_with (go_at_call 86; refine (p_addWords a b c d e f g h n m MX.out MY.out _ wx wy).mono ?_; rintro e' w' ⟨a1, b1, c1', d1', rfl, hw1, hm1, hE⟩; rw [HO.out]; have hm1 := hide hm1; have R2 := B2.ext hE; have l2 := R2.lt; obtain ⟨d0, d1, d2, d3, d4, g0, g1, g2, g3, g4⟩ := five_cells R2; have E1 := E0.trans hE; clear hE)
   all_goals exact bodyPost_ret (v := .tuple #[.agg #[.bool false, .int .u64 0, .int .u64 0, .int .u64 0, .int .u64 0], .bool false]) (by simp [results, Try.results73, go_sem, d0, d1, d2, d3, d4, l2]) rfl (wideRet_no HF.out ((ext_five E1 (by omega) _ _ _ _ _).trans (ext_alloc _ _)))
set_option maxHeartbeats 4000000 in
theorem p_wadd_other (s : Bool) (a b c d e f g h : Nat) (x y : Int) (w : World) (hx : IsW s a b c d x) (hy : IsW (!s) e f g h y) :
   Calls Try.prog 73 #[.agg #[.bool s, .int .u64 (a : Int), .int .u64 (b : Int), .int .u64 (c : Int), .int .u64 (d : Int)], .agg #[.bool (!s), .int .u64 (e : Int), .int .u64 (f : Int), .int .u64 (g : Int), .int .u64 (h : Int)]] w (WideRet (x + y) w) := by
 obtain ⟨t, ht⟩ : ∃ t, t = !s := ⟨_, rfl⟩
 rw [← ht] at hy ⊢
 obtain ⟨W, hW⟩ : ∃ W, W = (((w.alloc (.cells #[.bool s, .int .u64 (a : Int), .int .u64 (b : Int), .int .u64 (c : Int), .int .u64 (d : Int)] 25)).alloc (.cells #[.bool t, .int .u64 (e : Int), .int .u64 (f : Int), .int .u64 (g : Int), .int .u64 (h : Int)] 25)).alloc (.cells #[.bool false, .int .u64 0, .int .u64 0, .int .u64 0, .int .u64 0] 25)) := ⟨_, rfl⟩
 have H3 := three_boxes w (.cells #[.bool s, .int .u64 (a : Int), .int .u64 (b : Int), .int .u64 (c : Int), .int .u64 (d : Int)] 25) (.cells #[.bool t, .int .u64 (e : Int), .int .u64 (f : Int), .int .u64 (g : Int), .int .u64 (h : Int)] 25) (.cells #[.bool false, .int .u64 0, .int .u64 0, .int .u64 0, .int .u64 0] 25)
 rw [← hW] at H3
 have B0 : Box W w.heap.size s a b c d := H3.1
 have B1 : Box W (w.heap.size + 1) t e f g h := H3.2.1
 have B2 : Box W (w.heap.size + 1 + 1) false 0 0 0 0 := H3.2.2
 have E0 : Ext w W := by rw [hW]; exact ((ext_alloc _ _).trans (ext_alloc _ _)).trans (ext_alloc _ _)
 have HW := hide hW
 clear hW H3
 obtain ⟨n, hn⟩ : ∃ n, x.natAbs = n := ⟨_, rfl⟩
 obtain ⟨m, hm⟩ : ∃ m, y.natAbs = m := ⟨_, rfl⟩
 have MX : Hid (mag4 a b c d = n) := by rw [← hn]; exact hx.abs
 have MY : Hid (mag4 e f g h = m) := by rw [← hm]; exact hy.abs
 have wx := hx.w64
 have wy := hy.w64
 have bn := IsC.fits hx
 have bm := IsC.fits hy
 rw [hn] at bn
 rw [hm] at bm
 have h1 := hx.2.2.2.2
 have h2 := hy.2.2.2.2
 rw [MX.out] at h1
 rw [MY.out] at h2
 have HF : Hid ((x + y).natAbs < 115792089237316195423570985008687907853269984665640564039457584007913129639936) := by
   unfold Hid; subst ht; cases s <;> simp only [Bool.false_eq_true, if_false, if_true, Bool.not_false, Bool.not_true] at h1 h2 <;> omega
 have SN : Hid (m ≤ n → (if s then -((n - m : Nat) : Int) else ((n - m : Nat) : Int)) = x + y) := by
   intro h3; subst ht; cases s <;> simp only [Bool.false_eq_true, if_false, if_true, Bool.not_false, Bool.not_true] at h1 h2 ⊢ <;> omega
 have SM : Hid (n < m → (if t then -((m - n : Nat) : Int) else ((m - n : Nat) : Int)) = x + y) := by
   intro h3; subst ht; cases s <;> simp only [Bool.false_eq_true, if_false, if_true, Bool.not_false, Bool.not_true] at h1 h2 ⊢ <;> omega
 have hst : (s == t) = false := by subst ht; cases s <;> rfl
 clear hn hm hx hy h1 h2 bn bm ht
 obtain ⟨c0, c1, c2, c3, c4, f0, f1, f2, f3, f4⟩ := five_cells B0
 obtain ⟨d0, d1, d2, d3, d4, g0, g1, g2, g3, g4⟩ := five_cells B1
 by_cases hlt : n < m
 · have HS : Hid (sgnN n m = -1) := if_pos hlt
   have SZ := hide (SM.out hlt)
   have hle : m - n ≤ m := by omega
   clear SN SM
   go_enter Try.func73, Try.ntmps73
   go_upto_region 1 with fail
   rw [← HW.out]
   clear HW
   go_upto_if 33 with (go_at_call 83; refine (p_cmpWords a b c d e f g h n m MX.out MY.out _ wx wy).mono ?_; rintro e' w' ⟨rfl, hE⟩; rw [HS.out]; have R0 := B0.ext hE; have R1 := B1.ext hE; have R2 := B2.ext hE; have E1 := E0.trans hE; clear hE; obtain ⟨c0, c1, c2, c3, c4, f0, f1, f2, f3, f4⟩ := five_cells R0; obtain ⟨d0, d1, d2, d3, d4, g0, g1, g2, g3, g4⟩ := five_cells R1)
   go_cut [] (fun wx => Box wx w.heap.size t e f g h ∧ Box wx (w.heap.size + 1) s a b c d ∧ Box wx (w.heap.size + 1 + 1) false 0 0 0 0 ∧ Ext w wx)
   case first =>
     go_wp2_with fail
     all_goals go_meet
     all_goals exact ⟨(R0.put).far (by omega) _ _ _ _ _, (R1.far (by omega) _ _ _ _ _).put, (R2.far (by omega) _ _ _ _ _).far (by omega) _ _ _ _ _, ext_five (ext_five E1 (Nat.le_refl _) _ _ _ _ _) (by omega) _ _ _ _ _⟩
   case rest =>
     clear B0 B1 B2 E0 R0 R1 R2 E1
     obtain ⟨B0, B1, B2, E0⟩ := hcut
     obtain ⟨c0, c1, c2, c3, c4, f0, f1, f2, f3, f4⟩ := five_cells B0
     obtain ⟨d0, d1, d2, d3, d4, g0, g1, g2, g3, g4⟩ := five_cells B1
     go_wp2_with fail
     go_region_with (first
       | (go_at_call 87; refine (p_subWords e f g h a b c d m n MY.out MX.out _ wy wx (Nat.le_of_lt hlt)).mono ?_; rintro e' w' ⟨a1, b1, c1', d1', rfl, hw1, hm1, hE⟩; have hm1 := hide hm1; have R0 := B0.drew.ext hE; have R2 := B2.drew.ext hE; obtain ⟨c0, c1, c2, c3, c4, f0, f1, f2, f3, f4⟩ := five_cells R0; have E1 := (E0.trans (ext_drew _)).trans hE; clear hE)
       | (go_at_call 78; refine (p_signed t a1 b1 c1' d1' _ (w64_four hw1).1 (w64_four hw1).2.1 (w64_four hw1).2.2.1 (w64_four hw1).2.2.2).mono ?_; rintro e' w' ⟨s', a', b', c', d', rfl, hC, hE⟩; rw [hm1.out, SZ.out] at hC; have E2 := E1.trans hE; have R3 := R2.ext hE; obtain ⟨i0, i1, i2, i3, i4, j0, j1, j2, j3, j4⟩ := five_cells R3; clear hE))
     all_goals go_wp2_with fail
     all_goals exact bodyPost_ret (v := .tuple #[.agg #[.bool s', .int .u64 (a' : Int), .int .u64 (b' : Int), .int .u64 (c' : Int), .int .u64 (d' : Int)], .bool true]) (by simp [results, Try.results73, go_sem, i0, i1, i2, i3, i4]) rfl (wideRet_yes HF.out hC (ext_five E2 (by omega) _ _ _ _ _))
 · have hle : m ≤ n := by omega
   have h01 : (0 : Int) ≤ sgnN n m := by unfold sgnN; rw [if_neg hlt]; split <;> omega
   obtain ⟨q, hq⟩ : ∃ q, sgnN n m = q := ⟨_, rfl⟩
   rw [hq] at h01
   have HS := hide hq
   have SZ := hide (SN.out hle)
   clear SN SM hlt hq
   go_enter Try.func73, Try.ntmps73
   go_upto_region 1 with fail
   rw [← HW.out]
   clear HW
   go_wp2_with (go_at_call 83; refine (p_cmpWords a b c d e f g h n m MX.out MY.out _ wx wy).mono ?_; rintro e' w' ⟨rfl, hE⟩; rw [HS.out]; have R0 := B0.ext hE; have R1 := B1.ext hE; have R2 := B2.ext hE; have E1 := E0.trans hE; clear hE; obtain ⟨c0, c1, c2, c3, c4, f0, f1, f2, f3, f4⟩ := five_cells R0; obtain ⟨d0, d1, d2, d3, d4, g0, g1, g2, g3, g4⟩ := five_cells R1)
   clear B0 B1 B2 E0
   go_region_with (first
     | (go_at_call 87; refine (p_subWords a b c d e f g h n m MX.out MY.out _ wx wy hle).mono ?_; rintro e' w' ⟨a1, b1, c1', d1', rfl, hw1, hm1, hE⟩; have hm1 := hide hm1; have R0' := R0.drew.ext hE; have R2' := R2.drew.ext hE; obtain ⟨c0, c1, c2, c3, c4, f0, f1, f2, f3, f4⟩ := five_cells R0'; have E1' := (E1.trans (ext_drew _)).trans hE; clear hE)
     | (go_at_call 78; refine (p_signed s a1 b1 c1' d1' _ (w64_four hw1).1 (w64_four hw1).2.1 (w64_four hw1).2.2.1 (w64_four hw1).2.2.2).mono ?_; rintro e' w' ⟨s', a', b', c', d', rfl, hC, hE⟩; rw [hm1.out, SZ.out] at hC; have E2 := E1'.trans hE; have R3 := R2'.ext hE; obtain ⟨i0, i1, i2, i3, i4, j0, j1, j2, j3, j4⟩ := five_cells R3; clear hE))
   all_goals go_wp2_with fail
   all_goals exact bodyPost_ret (v := .tuple #[.agg #[.bool s', .int .u64 (a' : Int), .int .u64 (b' : Int), .int .u64 (c' : Int), .int .u64 (d' : Int)], .bool true]) (by simp [results, Try.results73, go_sem, i0, i1, i2, i3, i4]) rfl (wideRet_yes HF.out hC (ext_five E2 (by omega) _ _ _ _ _))
theorem p_wadd (s t : Bool) (a b c d e f g h : Nat) (x y : Int) (w : World) (hx : IsW s a b c d x) (hy : IsW t e f g h y) :
   Calls Try.prog 73 #[.agg #[.bool s, .int .u64 (a : Int), .int .u64 (b : Int), .int .u64 (c : Int), .int .u64 (d : Int)], .agg #[.bool t, .int .u64 (e : Int), .int .u64 (f : Int), .int .u64 (g : Int), .int .u64 (h : Int)]] w (WideRet (x + y) w) := by
 by_cases h1 : t = s
 · subst h1; exact p_wadd_same _ a b c d e f g h x y w hx hy
 · obtain rfl : t = !s := by cases s <;> cases t <;> simp at h1 ⊢
   exact p_wadd_other s a b c d e f g h x y w hx hy
end
section
open Go Go.RowKit
def MulRel (p q : List Nat) (f : Nat) (os : List Nat) (k c : Nat) : Prop := os.length = p.length ∧ os.drop k = p.drop k ∧ c < 18446744073709551616 ∧ val (os.take k) + 18446744073709551616 ^ k * c = val (p.take k) + val (q.take k) * f
theorem MulRel.step {p q os : List Nat} {f k c x y h l l1 c1 s c2 : Nat} (hr : MulRel p q f os k c) (hk : k < p.length) (hq : k < q.length) (hx : p[k] = x) (hy : q[k] = y) (bx : x < 18446744073709551616) (by' : y < 18446744073709551616) (bf : f < 18446744073709551616)
   (hh : y * f / 18446744073709551616 = h) (hl : y * f % 18446744073709551616 = l) (h1 : (l + c) % 18446744073709551616 = l1) (h2 : (l + c) / 18446744073709551616 = c1) (h3 : (x + l1) % 18446744073709551616 = s) (h4 : (x + l1) / 18446744073709551616 = c2) :
   MulRel p q f (os.set k s) (k + 1) (h + c1 + c2) ∧ h + c1 + c2 < 18446744073709551616 ∧ s < 18446744073709551616 ∧ c1 ≤ 1 ∧ c2 ≤ 1 ∧ l < 18446744073709551616 ∧ l1 < 18446744073709551616 ∧ h < 18446744073709551616 := by
 obtain ⟨r1, r2, r3, r4⟩ := hr
 have hp := prod_le by' bf
 have e : x + y * f + c = s + 18446744073709551616 * (h + c1 + c2) := by omega
 have b : h + c1 + c2 < 18446744073709551616 := by omega
 refine ⟨⟨by simpa using r1, by rw [drop_set]; exact (drop_get r2 (by omega) hk).2, b, ?_⟩, b, by omega, by omega, by omega, by omega, by omega, by omega⟩
 rw [val_set_take _ _ _ (by omega), val_take_succ p k hk, val_take_succ q k hq, hx, hy, Nat.pow_succ]
 rw [Nat.add_mul, Nat.mul_assoc (18446744073709551616 ^ k) y f]
 generalize y * f = t at *
 generalize h + c1 + c2 = z at *
 generalize 18446744073709551616 ^ k = K at *
 have e2 : K * (x + t + c) = K * (s + 18446744073709551616 * z) := by rw [e]
 rw [Nat.mul_add, Nat.mul_add, Nat.mul_add, ← Nat.mul_assoc] at e2
 omega
def AddProdPost (g : Nat) (T : TypeId) (P p Q q : List Nat) (f : Nat) (w : World) (e : Ending) (w' : World) : Prop :=
 ∃ (c : Nat) (os : List Nat), e = .returned (.int .u64 (c : Int)) ∧ c < 18446744073709551616 ∧ os.length = 4 ∧ W64 os ∧ val os + 18446744073709551616 ^ 4 * c = val p + val q * f ∧ Arr w' g T (P ++ os ++ Q) ∧ Upd g w w'
set_option maxHeartbeats 1000000 in
theorem p_addProduct (g o ca a b c d f : Nat) (T : TypeId) (P p Q : List Nat) (w : World) (hA : Arr w g T (P ++ p ++ Q)) (hP : P.length = o) (hp : p.length = 4) (wp : W64 p) (wq : W64 [a, b, c, d]) (hf : f < 18446744073709551616) :
   Calls Try.prog 101 #[.slice (some ⟨g, o, none⟩) 4 ca, .agg #[.int .u64 (a : Int), .int .u64 (b : Int), .int .u64 (c : Int), .int .u64 (d : Int)], .int .u64 (f : Int)] w (AddProdPost g T P p Q [a, b, c, d] f w) := by
 have hW := hide (arr_new w 107 [a, b, c, d] #[.int .u64 (a : Int), .int .u64 (b : Int), .int .u64 (c : Int), .int .u64 (d : Int)] rfl)
 have E0 := hide (ext_alloc w (.cells #[.int .u64 (a : Int), .int .u64 (b : Int), .int .u64 (c : Int), .int .u64 (d : Int)] 107))
 have lg := hA.lt
 have HA := hide hA
 obtain ⟨q, hq⟩ : ∃ q, q = [a, b, c, d] := ⟨_, rfl⟩
 rw [← hq] at hW wq
 have Hq : Hid (q.length = 4) := by rw [hq]; exact rfl
 have HP := hide hP
 have Hp := hide hp
 rw [← hq]
 clear hA hP hp hq
 go_enter Try.func101, Try.ntmps101
 go_wp2_with fail
 go_loopw [14, 7] (fun i t wr => ∃ (k c : Nat) (os : List Nat), i = .int .i64 k ∧ t = .int .u64 c ∧ k ≤ 4 ∧ c < 18446744073709551616 ∧ Hid (MulRel p q f os k c) ∧ W64 os ∧ Hid (Arr wr g T (P ++ os ++ Q)) ∧ Arr wr w.heap.size 107 q ∧ Upd g w wr) (fun i _ _ => 4 - (intOf i).toNat)
 case atStart => exact ⟨0, 0, p, rfl, rfl, by omega, by omega, ⟨rfl, rfl, by omega, by simp [val]⟩, wp, HA.out.ext E0.out, hW.out, E0.out.upd g⟩
 case round =>
   obtain ⟨k, c, os, rfl, rfl, hk, hc, HR, wo, HO, hQ, hU⟩ := hrel
   have HL : Hid (os.length = 4) := HR.out.1.trans Hp.out
   by_cases hk4 : k < 4
   · have hkn : k < os.length := by rw [HL.out]; omega
     have hkp : k < p.length := by rw [Hp.out]; omega
     have hkq : k < q.length := by rw [Hq.out]; omega
     have cg := HO.out.seg HP.out k hkn
     have fg := HO.out.free (o + k)
     have cb := hQ.at k hkq
     obtain ⟨x, hx⟩ : ∃ x, os[k] = x := ⟨_, rfl⟩
     obtain ⟨y, hy⟩ : ∃ y, q[k] = y := ⟨_, rfl⟩
     have hx2 : p[k] = x := by rw [← hx]; exact (drop_get HR.out.2.1 hkn hkp).1.symm
     have bx : x < 18446744073709551616 := by rw [← hx]; exact w64_get wo k hkn
     have b_y : y < 18446744073709551616 := by rw [← hy]; exact w64_get wq k hkq
     rw [hx] at cg
     rw [hy] at cb
     obtain ⟨h, hh⟩ : ∃ h, y * f / 18446744073709551616 = h := ⟨_, rfl⟩
     obtain ⟨l, hl⟩ : ∃ l, y * f % 18446744073709551616 = l := ⟨_, rfl⟩
     obtain ⟨l1, h1⟩ : ∃ l1, (l + c) % 18446744073709551616 = l1 := ⟨_, rfl⟩
     obtain ⟨c1, h2⟩ : ∃ c1, (l + c) / 18446744073709551616 = c1 := ⟨_, rfl⟩
     obtain ⟨s, h3⟩ : ∃ s, (x + l1) % 18446744073709551616 = s := ⟨_, rfl⟩
     obtain ⟨c2, h4⟩ : ∃ c2, (x + l1) / 18446744073709551616 = c2 := ⟨_, rfl⟩
     obtain ⟨hS, z1, z2, z3, z4, z5, z6, z7⟩ := HR.out.step hkp hkq hx2 hy bx b_y hf hh hl h1 h2 h3 h4
     have hadd := add64_eq0 l c l1 c1 h1 h2
     have hadd2 := add64_eq0 x l1 s c2 h3 h4
     have HHH := hide hh
     have HLL := hide hl
     have HS := hide hS
     have HW := hide (HO.out.segset HP.out k s hkn)
     have HU := hide (hU.set (o + k) (.int .u64 (s : Int)))
     have HQ := hide (hQ.far (b := g) (by omega) (o + k) (.int .u64 (s : Int)))
     have q1 : (h : Int) + c1 ≤ 18446744073709551615 := by omega
     have q2 : (h : Int) + c1 + c2 ≤ 18446744073709551615 := by omega
     clear hx hy hx2 hh hl h1 h2 h3 h4 hS
     go_wp2_with (go_at_call 94; refine (b_mul64 y f h l _ b_y hf HHH HLL).mono ?_; rintro e' w' ⟨rfl, rfl⟩)
     exact ⟨⟨k + 1, _, _, by go_num, by go_num, by omega, z1, HS, w64_set wo _ _ z2, HW, HQ.out, HU.out⟩, by simp [intOf]; omega⟩
   · obtain rfl : k = 4 := by omega
     have H1 : Hid (val os + 18446744073709551616 ^ 4 * c = val p + val q * f) := by
       obtain ⟨r1, _, _, r4⟩ := HR.out
       rw [List.take_of_length_le (by rw [HL.out]; omega), List.take_of_length_le (by rw [Hp.out]; omega), List.take_of_length_le (by rw [Hq.out]; omega)] at r4
       exact r4
     go_wp2
     go_ret
     exact ⟨c, os, rfl, hc, HL.out, wo, H1.out, HO.out, hU⟩
open Go Go.RowKit
theorem val_zeros (n : Nat) : val (List.replicate n 0) = 0 := by
 induction n with
 | zero => rfl
 | succ n ih => rw [List.replicate_succ, val, ih]
theorem w64_cat {a b : List Nat} (h : W64 a) (k : W64 b) : W64 (a ++ b) := fun x hx => by rcases List.mem_append.1 hx with h1 | h1; exact h x h1; exact k x h1
theorem mul_round (L os A : List Nat) (m k c f : Nat) (h8 : L.length = 8) (hk : k < 4) (hv : val L = val (A.take k) * m) (hz : L.drop (k + 4) = List.replicate (4 - k) 0) (ho : os.length = 4) (he : val os + 18446744073709551616 ^ 4 * c = val ((L.drop k).take 4) + m * f) (hA : k < A.length) (hf : A[k] = f) (hc : c < 18446744073709551616) (wL : W64 L) (wo : W64 os) :
   ((L.take k ++ os ++ L.drop (k + 4)).set (k + 4) c).length = 8 ∧ W64 ((L.take k ++ os ++ L.drop (k + 4)).set (k + 4) c) ∧ val ((L.take k ++ os ++ L.drop (k + 4)).set (k + 4) c) = val (A.take (k + 1)) * m ∧ ((L.take k ++ os ++ L.drop (k + 4)).set (k + 4) c).drop (k + 1 + 4) = List.replicate (4 - (k + 1)) 0 := by
 have hT : (L.take k).length = k := by simp; omega
 have e1 : (L.take k ++ os ++ L.drop (k + 4)).set (k + 4) c = L.take k ++ os ++ (c :: List.replicate (3 - k) 0) := by
   rw [hz, show 4 - k = (3 - k) + 1 by omega, List.replicate_succ, List.set_append_right _ _ (by simp [hT, ho])]
   congr 1
   rw [List.length_append, hT, ho, Nat.sub_self]; rfl
 rw [e1]
 refine ⟨by simp [hT, ho]; omega, ?_, ?_, ?_⟩
 · refine w64_cat (w64_cat (w64_take wL k) wo) ?_
   intro x hx
   rcases List.mem_cons.1 hx with rfl | hx
   · exact hc
   · rw [List.eq_of_mem_replicate hx]; omega
 · have e2 : val L = val (L.take k) + 18446744073709551616 ^ k * val ((L.drop k).take 4) := by
     rw [val_take_drop L k (by omega), val_take_drop (L.drop k) 4 (by simp; omega), List.drop_drop, hz, val_zeros]; simp
   rw [val_append, val_append, hT, List.length_append, hT, ho, val, val_zeros, val_take_succ A k hA, hf, Nat.add_mul, ← hv, e2, Nat.pow_add]
   generalize 18446744073709551616 ^ 4 = M at *
   generalize 18446744073709551616 ^ k = K at *
   have e3 : K * (val os + M * c) = K * (val ((L.drop k).take 4) + m * f) := by rw [he]
   rw [Nat.mul_add, Nat.mul_add, ← Nat.mul_assoc] at e3
   rw [Nat.mul_zero, Nat.add_zero, Nat.mul_assoc K f m, Nat.mul_comm f m]
   omega
 · rw [List.drop_append, List.length_append, hT, ho, List.drop_of_length_le (by rw [List.length_append, hT, ho]; omega), show k + 1 + 4 - (k + 4) = 1 by omega, show 4 - (k + 1) = 3 - k by omega]; rfl
theorem four_new (w : World) (o p q r : Obj) : ((((w.alloc o).alloc p).alloc q).alloc r).heap[w.heap.size]? = some o ∧ ((((w.alloc o).alloc p).alloc q).alloc r).heap[w.heap.size + 1]? = some p ∧ ((((w.alloc o).alloc p).alloc q).alloc r).heap[w.heap.size + 1 + 1]? = some q ∧ ((((w.alloc o).alloc p).alloc q).alloc r).heap[w.heap.size + 1 + 1 + 1]? = some r := by
 obtain ⟨h1, h2, h3⟩ := three_boxes w o p q
 have h4 := heap_alloc_new (((w.alloc o).alloc p).alloc q) r
 have hs : (((w.alloc o).alloc p).alloc q).heap.size = w.heap.size + 1 + 1 + 1 := by simp
 rw [hs] at h4
 exact ⟨keep5 (ext_alloc _ _) h1, keep5 (ext_alloc _ _) h2, keep5 (ext_alloc _ _) h3, h4⟩
theorem eight_list {L : List Nat} (h : L.length = 8) : ∃ a b c d e f g i, L = [a, b, c, d, e, f, g, i] := by
 match L, h with
 | [a, b, c, d, e, f, g, i], _ => exact ⟨a, b, c, d, e, f, g, i, rfl⟩
theorem eight_val (a b c d e f g i : Nat) : val [a, b, c, d, e, f, g, i] = mag4 a b c d + 115792089237316195423570985008687907853269984665640564039457584007913129639936 * mag4 e f g i := by
 simp only [mag4, val]; omega
theorem idxRun (a b c d k f : Nat) (hk : k < [a, b, c, d].length) (h : [a, b, c, d][k] = f) (w : World) : (Instr.index 107 (.agg #[.int .u64 (a : Int), .int .u64 (b : Int), .int .u64 (c : Int), .int .u64 (d : Int)]) (.int .i64 (k : Int))).run Try.prog w = .ok (.int .u64 (f : Int)) w := by
 have hk2 : k < 4 := hk
 have : k = 0 ∨ k = 1 ∨ k = 2 ∨ k = 3 := by omega
 rcases this with rfl | rfl | rfl | rfl <;> (subst h; simp [Instr.index, run_underlying Try.underlying107, Try.sizeOf22, part, isAgg, run_underlying Try.underlying22, asIntOf])
theorem slRun (T n g l : Nat) (h : Int) (m : Nat) (hm : h = ((m : Nat) : Int)) (hT : Try.prog.underlying T = some (.array (Try.prog.arrayLen T) (Try.prog.elem T))) (hn : Try.prog.arrayLen T = n) (he : Try.prog.elem T = 22) (h1 : l ≤ m) (h2 : m ≤ n) (h3 : l < n) (w : World) :
   (Instr.sliceAt T (.pointer (some ⟨g, 0, none⟩)) (some (.int .i64 (l : Int))) (some (.int .i64 h)) none).run Try.prog w = .ok (.slice (some ⟨g, l, none⟩) (m - l) (n - l)) w := by
 subst hm
 rw [run_sliceAt_array_lh w T ⟨g, 0, none⟩ hT .i64 .i64 (l : Int) (m : Int) (by omega) (by omega) (by rw [hn]; omega), he, Try.sizeOf22, hn]
 simp only [Result.andThen_ok, slicedAt, Int.toNat_natCast, Nat.mul_one]
 rw [if_neg (by omega)]
 by_cases h0 : l = 0
 · subst h0; simp [Addr.add]
 · simp [Addr.add, h0]
set_option maxHeartbeats 1000000 in
set_option maxRecDepth 100000 in
theorem p_mulWords (a b c d e f g h n m : Nat) (hn : mag4 a b c d = n) (hm : mag4 e f g h = m) (w : World) (hw : W64 [a, b, c, d]) (hw' : W64 [e, f, g, h]) :
   Calls Try.prog 90 #[.agg #[.int .u64 (a : Int), .int .u64 (b : Int), .int .u64 (c : Int), .int .u64 (d : Int)], .agg #[.int .u64 (e : Int), .int .u64 (f : Int), .int .u64 (g : Int), .int .u64 (h : Int)]] w
     (WordsRet ((n * m) % 115792089237316195423570985008687907853269984665640564039457584007913129639936) (decide (n * m < 115792089237316195423570985008687907853269984665640564039457584007913129639936)) w) := by
 obtain ⟨o, ho⟩ : ∃ o, decide (n * m < 115792089237316195423570985008687907853269984665640564039457584007913129639936) = o := ⟨_, rfl⟩
 rw [ho]
 have H4 := four_new w (.cells #[.int .u64 (a : Int), .int .u64 (b : Int), .int .u64 (c : Int), .int .u64 (d : Int)] 107) (.cells #[.int .u64 (e : Int), .int .u64 (f : Int), .int .u64 (g : Int), .int .u64 (h : Int)] 107) (.cells #[.int .u64 0, .int .u64 0, .int .u64 0, .int .u64 0] 107) (.cells #[.int .u64 0, .int .u64 0, .int .u64 0, .int .u64 0, .int .u64 0, .int .u64 0, .int .u64 0, .int .u64 0] 130)
 obtain ⟨W, hW⟩ : ∃ W, W = ((((w.alloc (.cells #[.int .u64 (a : Int), .int .u64 (b : Int), .int .u64 (c : Int), .int .u64 (d : Int)] 107)).alloc (.cells #[.int .u64 (e : Int), .int .u64 (f : Int), .int .u64 (g : Int), .int .u64 (h : Int)] 107)).alloc (.cells #[.int .u64 0, .int .u64 0, .int .u64 0, .int .u64 0] 107)).alloc (.cells #[.int .u64 0, .int .u64 0, .int .u64 0, .int .u64 0, .int .u64 0, .int .u64 0, .int .u64 0, .int .u64 0] 130)) := ⟨_, rfl⟩
 have E0 : Ext w W := by rw [hW]; exact (((ext_alloc _ _).trans (ext_alloc _ _)).trans (ext_alloc _ _)).trans (ext_alloc _ _)
 rw [← hW] at H4
 have A0 : Arr W w.heap.size 107 [a, b, c, d] := H4.1
 have A1 : Arr W (w.heap.size + 1) 107 [e, f, g, h] := H4.2.1
 have A2 : Arr W (w.heap.size + 1 + 1) 107 [0, 0, 0, 0] := H4.2.2.1
 have A3 : Arr W (w.heap.size + 1 + 1 + 1) 130 [0, 0, 0, 0, 0, 0, 0, 0] := H4.2.2.2
 have HW := hide hW
 have HO := hide ho
 have HM := hide hm
 obtain ⟨A, hA⟩ : ∃ A, A = [a, b, c, d] := ⟨_, rfl⟩
 have VA : Hid (val A = n) := by rw [hA]; exact hn
 have LA : Hid (A.length = 4) := by rw [hA]; exact rfl
 have HA := hide hA
 obtain ⟨c0, c1, c2, c3, f0, f1, f2, f3⟩ := A0.four
 clear hW H4 ho hn hm hA
 go_enter Try.func90, Try.ntmps90
 go_wp2_with fail
 rw [← HW.out]
 clear HW
 go_loopw [12] (fun i wr => ∃ (k : Nat) (L : List Nat), i = .int .i64 k ∧ k ≤ 4 ∧ Hid (L.length = 8) ∧ W64 L ∧ Hid (val L = val (A.take k) * m) ∧ Hid (L.drop (k + 4) = List.replicate (4 - k) 0) ∧ Arr wr (w.heap.size + 1 + 1 + 1) 130 L ∧ Upd (w.heap.size + 1 + 1 + 1) W wr) (fun i _ => 4 - (intOf i).toNat)
 case atStart => exact ⟨0, [0, 0, 0, 0, 0, 0, 0, 0], rfl, by omega, rfl, by (intro x hx; simp at hx; omega), by (unfold Hid; simp [val]), rfl, A3, Upd.refl _ _⟩
 case round =>
   obtain ⟨k, L, rfl, hk, HL, wL, HV, HZ, hP, hU⟩ := hrel
   by_cases hk4 : k < 4
   · have hkA : k < A.length := by rw [LA.out]; omega
     obtain ⟨f', hf⟩ : ∃ f', A[k] = f' := ⟨_, rfl⟩
     have hidx : ∀ w, (Instr.index 107 (.agg #[.int .u64 (a : Int), .int .u64 (b : Int), .int .u64 (c : Int), .int .u64 (d : Int)]) (.int .i64 (k : Int))).run Try.prog w = .ok (.int .u64 (f' : Int)) w := by
       have e := HA.out; subst e; exact idxRun a b c d k f' hkA hf
     have bf : f' < 18446744073709551616 := by
       have e := HA.out; subst e; rw [← hf]; exact w64_get hw k hkA
     have HF := hide hf
     have B1 := A1.upd hU (by omega)
     obtain ⟨d0, d1, d2, d3, g0, g1, g2, g3⟩ := B1.four
     clear hf
     have hsl := slRun 130 8 (w.heap.size + 1 + 1 + 1) k ((k : Int) + 4) (k + 4) (by omega) (by kernel_rfl) (by kernel_rfl) (by kernel_rfl) (by omega) (by omega) (by omega)
     rw [show k + 4 - k = 4 by omega] at hsl
     have hwr : IntKind.i64.wrap ((k : Int) + 4) = (k : Int) + 4 := by rw [IntKind.wrap_i64]; omega
     have hwr1 : (0 : Int) ≤ (k : Int) + 4 := by omega
     have hwr2 : (k : Int) + 4 < 8 := by omega
     have hwr3 : ((k : Int) + 4).toNat = k + 4 := by omega
     have HCT : Hid (L.take k ++ (L.drop k).take 4 ++ L.drop (k + 4) = L) := by
       unfold Hid
       rw [List.append_assoc, ← List.drop_drop, List.take_append_drop, List.take_append_drop]
     have HPA : Hid (Arr wr (w.heap.size + 1 + 1 + 1) 130 (L.take k ++ (L.drop k).take 4 ++ L.drop (k + 4))) := by rw [HCT.out]; exact hP
     have T1 : Hid ((L.take k).length = k) := by unfold Hid; rw [List.length_take, HL.out]; omega
     have T2 : Hid (((L.drop k).take 4).length = 4) := by unfold Hid; rw [List.length_take, List.length_drop, HL.out]; omega
     have w4 : W64 ((L.drop k).take 4) := w64_take (w64_drop wL k) 4
     have HR : Hid (∀ (c : Nat) (os : List Nat), os.length = 4 → c < 18446744073709551616 → W64 os → val os + 18446744073709551616 ^ 4 * c = val ((L.drop k).take 4) + val [e, f, g, h] * f' → _) := fun c os h1 h2 h3 h4 => mul_round L os A m k c f' HL.out hk4 HV.out HZ.out h1 (by rw [← HM.out]; exact h4) hkA HF.out h2 wL h3
     go_wp2_with fail
     go_region_with (go_at_call 101; refine (p_addProduct (w.heap.size + 1 + 1 + 1) k (8 - k) e f g h f' 130 (L.take k) ((L.drop k).take 4) (L.drop (k + 4)) _ HPA.out.drew T1.out T2.out w4 hw' bf).mono ?_; rintro e' w' ⟨c', os, rfl, hc', hl', hws, hv, hA', hU'⟩; obtain ⟨R1, R2, R3, R4⟩ := HR.out c' os hl' hc' hws hv; have R1 := hide R1; have R3 := hide R3; have R4 := hide R4; have hcs := hA'.at (k + 4) (by have := R1.out; rw [List.length_set] at this; omega); have hfs := hA'.free (k + 4); have HAA := hide (hA'.set (k + 4) c'); have HUU := hide (((hU.drew).trans hU').set (k + 4) (.int .u64 (c' : Int))); clear hv hA' hU' hl')
     all_goals go_wp2_with fail
     all_goals exact ⟨⟨k + 1, _, by go_num, by omega, R1, R2, R3, R4, HAA.out, HUU.out⟩, by simp [intOf]; omega⟩
   · obtain rfl : k = 4 := by omega
     have H1 : Hid (val L = n * m) := by
       unfold Hid
       rw [HV.out, List.take_of_length_le (by rw [LA.out]; omega), VA.out]
     obtain ⟨l0, l1, l2, l3, l4, l5, l6, l7, rfl⟩ := eight_list HL.out
     have B2 := A2.upd hU (by omega)
     have E1 := hU.ext E0 (by omega)
     have p0 := hP.at 0 (by simp)
     have p1 := hP.at 1 (by simp)
     have p2 := hP.at 2 (by simp)
     have p3 := hP.at 3 (by simp)
     have p4 := hP.at 4 (by simp)
     have p5 := hP.at 5 (by simp)
     have p6 := hP.at 6 (by simp)
     have p7 := hP.at 7 (by simp)
     have lq := B2.lt
     have lq2 : w.heap.size + 1 + 1 < wr.heap.size + 1 := by omega
     have lp := hP.lt
     have lp2 : w.heap.size + 1 + 1 + 1 < wr.heap.size + 1 := by omega
     simp only [List.getElem_cons_zero, List.getElem_cons_succ] at p0 p1 p2 p3 p4 p5 p6 p7
     obtain ⟨d0, d1, d2, d3, g0, g1, g2, g3⟩ := B2.four
     clear hP hU HZ HV HL hk4
     have hat1 : ∀ w2, (Instr.arrayAt 107 (.slice (some ⟨w.heap.size + 1 + 1 + 1, 0, none⟩) 4 8)).run Try.prog w2 = .ok (.pointer (some ⟨w.heap.size + 1 + 1 + 1, 0, none⟩)) w2 := fun w2 => run_arrayAt w2 107 _ 4 _ 4 8 Try.underlying107 (by omega)
     have hat2 : ∀ w2, (Instr.arrayAt 107 (.slice (some ⟨w.heap.size + 1 + 1 + 1, 4, none⟩) 4 4)).run Try.prog w2 = .ok (.pointer (some ⟨w.heap.size + 1 + 1 + 1, 4, none⟩)) w2 := fun w2 => run_arrayAt w2 107 _ 4 _ 4 4 Try.underlying107 (by omega)
     obtain ⟨o2, ho2⟩ : ∃ o2, decide (mag4 l4 l5 l6 l7 ≠ 0) = o2 := ⟨_, rfl⟩
     have hq := eql0 107 Try.underlying107 l4 l5 l6 l7 o2 ho2
     have HT : Hid (Ending.returned (Value.tuple #[.agg #[.int .u64 (l0 : Int), .int .u64 (l1 : Int), .int .u64 (l2 : Int), .int .u64 (l3 : Int)], .bool (!o2)]) = .returned (.tuple #[.agg #[.int .u64 (l0 : Int), .int .u64 (l1 : Int), .int .u64 (l2 : Int), .int .u64 (l3 : Int)], .bool o]) ∧ W64 [l0, l1, l2, l3] ∧ mag4 l0 l1 l2 l3 = (n * m) % 115792089237316195423570985008687907853269984665640564039457584007913129639936) := by
       have w4 : W64 [l0, l1, l2, l3] := fun x hx => wL x (by simp at hx ⊢; omega)
       obtain ⟨b0, b1, b2, b3⟩ := w64_four w4
       have hb := mag_lt b0 b1 b2 b3
       have he := eight_val l0 l1 l2 l3 l4 l5 l6 l7
       rw [H1.out] at he
       refine ⟨?_, w4, ?_⟩
       · have e : (!o2) = o := by
           rw [← HO.out, ← ho2]
           by_cases h0 : mag4 l4 l5 l6 l7 = 0
           · rw [decide_eq_false (by omega), decide_eq_true (by omega)]; rfl
           · rw [decide_eq_true h0, decide_eq_false (by omega)]; rfl
         rw [e]
       · rw [he, Nat.add_mul_mod_self_left, Nat.mod_eq_of_lt hb]
     clear H1 
     clear ho2
     go_wp2_with fail
     go_region
     all_goals go_wp2_with fail
     all_goals go_region
     all_goals go_wp2_with fail
     all_goals exact bodyPost_ret (v := .tuple #[.agg #[.int .u64 (l0 : Int), .int .u64 (l1 : Int), .int .u64 (l2 : Int), .int .u64 (l3 : Int)], .bool (!o2)]) (by simp [results, Try.results90, go_sem, d0, d1, d2, d3, lq, lq2]) rfl ⟨l0, l1, l2, l3, HT.out.1, HT.out.2.1, HT.out.2.2, ((((ext_four E1 (by omega) _ _ _ _).trans (ext_alloc _ _)).trans (ext_alloc _ _)).trans (ext_drew _)).trans (ext_drew _)⟩
open Go Go.RowKit
theorem mul_abs (s t : Bool) (n m : Nat) (x y : Int) (hx : x = if s then -(n : Int) else n) (hy : y = if t then -(m : Int) else m) :
   (if (s != t) then -((n * m : Nat) : Int) else ((n * m : Nat) : Int)) = x * y ∧ (x * y).natAbs = n * m := by
 have e : (x * y).natAbs = n * m := by
   rw [Int.natAbs_mul]
   have h1 : x.natAbs = n := by cases s <;> simp at hx <;> omega
   have h2 : y.natAbs = m := by cases t <;> simp at hy <;> omega
   rw [h1, h2]
 refine ⟨?_, e⟩
 subst hx; subst hy
 cases s <;> cases t <;> simp [Int.neg_mul, Int.mul_neg]
theorem neqB (s t u : Bool) (h : (s != t) = u) (w : World) : (binOp .neq 4 (.bool s) (.bool t)).run Try.prog w = .ok (.bool u) w := by
 subst h
 have e := fun d => run_equalIn_bool' w d 4 s t Try.underlying4
 simp only [binOp]
 simp [Op.equal, Op.maxDepth, e 9999]
 cases s <;> cases t <;> rfl
set_option maxHeartbeats 400000 in
set_option maxRecDepth 100000 in
theorem p_wmul (s t : Bool) (a b c d e f g h : Nat) (x y : Int) (w : World) (hx : IsW s a b c d x) (hy : IsW t e f g h y) :
   Calls Try.prog 80 #[.agg #[.bool s, .int .u64 (a : Int), .int .u64 (b : Int), .int .u64 (c : Int), .int .u64 (d : Int)], .agg #[.bool t, .int .u64 (e : Int), .int .u64 (f : Int), .int .u64 (g : Int), .int .u64 (h : Int)]] w (WideRet (x * y) w) := by
 obtain ⟨W, hW⟩ : ∃ W, W = (((w.alloc (.cells #[.bool s, .int .u64 (a : Int), .int .u64 (b : Int), .int .u64 (c : Int), .int .u64 (d : Int)] 25)).alloc (.cells #[.bool t, .int .u64 (e : Int), .int .u64 (f : Int), .int .u64 (g : Int), .int .u64 (h : Int)] 25)).alloc (.cells #[.bool false, .int .u64 0, .int .u64 0, .int .u64 0, .int .u64 0] 25)) := ⟨_, rfl⟩
 have H3 := three_boxes w (.cells #[.bool s, .int .u64 (a : Int), .int .u64 (b : Int), .int .u64 (c : Int), .int .u64 (d : Int)] 25) (.cells #[.bool t, .int .u64 (e : Int), .int .u64 (f : Int), .int .u64 (g : Int), .int .u64 (h : Int)] 25) (.cells #[.bool false, .int .u64 0, .int .u64 0, .int .u64 0, .int .u64 0] 25)
 rw [← hW] at H3
 have B0 : Box W w.heap.size s a b c d := H3.1
 have B1 : Box W (w.heap.size + 1) t e f g h := H3.2.1
 have B2 : Box W (w.heap.size + 1 + 1) false 0 0 0 0 := H3.2.2
 have E0 : Ext w W := by rw [hW]; exact ((ext_alloc _ _).trans (ext_alloc _ _)).trans (ext_alloc _ _)
 have HW := hide hW
 clear hW H3
 obtain ⟨n, hn⟩ : ∃ n, x.natAbs = n := ⟨_, rfl⟩
 obtain ⟨m, hm⟩ : ∃ m, y.natAbs = m := ⟨_, rfl⟩
 have MX : Hid (mag4 a b c d = n) := by rw [← hn]; exact hx.abs
 have MY : Hid (mag4 e f g h = m) := by rw [← hm]; exact hy.abs
 have wx := hx.w64
 have wy := hy.w64
 obtain ⟨u, hu⟩ : ∃ u, (s != t) = u := ⟨_, rfl⟩
 have SZ : Hid ((if u then -((n * m : Nat) : Int) else ((n * m : Nat) : Int)) = x * y ∧ (x * y).natAbs = n * m) := by
   have h1 := hx.2.2.2.2
   have h2 := hy.2.2.2.2
   rw [MX.out] at h1
   rw [MY.out] at h2
   rw [← hu]
   exact mul_abs s t n m x y h1 h2
 have hnb := neqB s t u hu
 clear hn hm hx hy hu
 obtain ⟨c0, c1, c2, c3, c4, f0, f1, f2, f3, f4⟩ := five_cells B0
 obtain ⟨d0, d1, d2, d3, d4, g0, g1, g2, g3, g4⟩ := five_cells B1
 by_cases hf : n * m < 115792089237316195423570985008687907853269984665640564039457584007913129639936
 · have HO : Hid (decide (n * m < 115792089237316195423570985008687907853269984665640564039457584007913129639936) = true) := by unfold Hid; rw [decide_eq_true_iff]; exact hf
   have HM : Hid ((n * m) % 115792089237316195423570985008687907853269984665640564039457584007913129639936 = n * m) := by unfold Hid; rw [Nat.mod_eq_of_lt hf]
   have HF : Hid ((x * y).natAbs < 115792089237316195423570985008687907853269984665640564039457584007913129639936) := by rw [SZ.out.2]; exact hf
   clear hf
   go_enter Try.func80, Try.ntmps80
   go_upto_region 1 with fail
   rw [← HW.out]
   clear HW
   go_wp2_with (first
     | (go_at_call 90; refine (p_mulWords a b c d e f g h n m MX.out MY.out _ wx wy).mono ?_; rintro e' w' ⟨a1, b1, c1', d1', rfl, hw1, hm1, hE⟩; rw [HO.out]; rw [HM.out] at hm1; have Hm1 := hide hm1; clear hm1; have R0 := B0.ext hE; have R1 := B1.ext hE; have R2 := B2.ext hE; obtain ⟨c0, c1, c2, c3, c4, f0, f1, f2, f3, f4⟩ := five_cells R0; obtain ⟨d0, d1, d2, d3, d4, g0, g1, g2, g3, g4⟩ := five_cells R1; have l0 := R0.lt; have l1 := R1.lt; have l2 := R2.lt; have E1 := E0.trans hE; clear hE)
     | (go_at_call 78; refine (p_signed u a1 b1 c1' d1' _ (w64_four hw1).1 (w64_four hw1).2.1 (w64_four hw1).2.2.1 (w64_four hw1).2.2.2).mono ?_; rintro e' w' ⟨s', a', b', c', d', rfl, hC, hE⟩; rw [Hm1.out, SZ.out.1] at hC; have E1 := (E1.trans (ext_alloc _ _)).trans hE; have R3 := (R2.ext (ext_alloc _ _)).ext hE; obtain ⟨d0, d1, d2, d3, d4, g0, g1, g2, g3, g4⟩ := five_cells R3; clear hE))
   all_goals exact bodyPost_ret (v := .tuple #[.agg #[.bool s', .int .u64 (a' : Int), .int .u64 (b' : Int), .int .u64 (c' : Int), .int .u64 (d' : Int)], .bool true]) (by simp [results, Try.results80, go_sem, d0, d1, d2, d3, d4]) rfl (wideRet_yes HF.out hC (ext_five E1 (by omega) _ _ _ _ _))
 · have HO : Hid (decide (n * m < 115792089237316195423570985008687907853269984665640564039457584007913129639936) = false) := by unfold Hid; rw [decide_eq_false_iff_not]; exact hf
   have HF : Hid (¬ (x * y).natAbs < 115792089237316195423570985008687907853269984665640564039457584007913129639936) := by rw [SZ.out.2]; exact hf
   clear hf
   go_enter Try.func80, Try.ntmps80
   go_upto_region 1 with fail
   rw [← HW.out]
   clear HW
   go_wp2_with (go_at_call 90; refine (p_mulWords a b c d e f g h n m MX.out MY.out _ wx wy).mono ?_; rintro e' w' ⟨a1, b1, c1', d1', rfl, hw1, hm1, hE⟩; rw [HO.out]; clear hm1; have R2 := B2.ext hE; have l2 := R2.lt; obtain ⟨d0, d1, d2, d3, d4, g0, g1, g2, g3, g4⟩ := five_cells R2; have E1 := E0.trans hE; clear hE)
   all_goals exact bodyPost_ret (v := .tuple #[.agg #[.bool false, .int .u64 0, .int .u64 0, .int .u64 0, .int .u64 0], .bool false]) (by simp [results, Try.results80, go_sem, d0, d1, d2, d3, d4, l2]) rfl (wideRet_no HF.out ((ext_five E1 (by omega) _ _ _ _ _).trans (ext_alloc _ _)))
end
end Go.Proofs.Ytlfmeiejocpnfaa
