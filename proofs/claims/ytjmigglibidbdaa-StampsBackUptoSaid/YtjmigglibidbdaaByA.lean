/- Bytes in memory: a slice that reads as a list of numbers below 256. No condition. -/
import Derived.Test.YtjmigglibidbdaaMag1
import Derived.Laws.CopyOwn
import Derived.Maps.AppendAt
import Derived.Deep.AppendLies
import Derived.Deep.Draws
namespace Go.Proofs.Ytjmigglibidbdaa
set_option linter.unusedVariables false
set_option linter.unusedSimpArgs false
open Go Go.RowKit
/-- Block g is just the cells cs. -/
def Blk (w : World) (g : Nat) (t : TypeId) (cs : Array Value) : Prop := w.heap[g]? = some (.cells cs t (0, 0))
section
variable {w w' : World} {g : Nat} {t : TypeId} {cs : Array Value}
theorem Blk.lt (h : Blk w g t cs) : g < w.heap.size := (Array.getElem?_eq_some_iff.1 h).1
theorem Blk.cell (h : Blk w g t cs) (i : Nat) : w.cell? ⟨g, i, none⟩ = cs[i]? := cell_of_row w g i cs t (0, 0) h
theorem Blk.frozen (h : Blk w g t cs) (i : Nat) : w.frozen? ⟨g, i, none⟩ = false := by
  unfold Blk at h
  simp [World.frozen?, h]
theorem Blk.new (w : World) (t : TypeId) (cs : Array Value) : Blk (w.alloc (.cells cs t)) w.heap.size t cs := heap_alloc_new w _
theorem Blk.drew (h : Blk w g t cs) : Blk w.drew g t cs := h
theorem Blk.drewN (h : Blk w g t cs) (n : Nat) : Blk (w.drewN n) g t cs := h
theorem Blk.alloc (h : Blk w g t cs) (o : Obj) : Blk (w.alloc o) g t cs := (Below.heap_alloc w o g h.lt).trans h
theorem Blk.set_ (h : Blk w g t cs) (i : Nat) (u : Value) : Blk (w.setCell ⟨g, i, none⟩ u) g t (cs.setIfInBounds i u) := by
  unfold Blk at h ⊢
  simp [World.setCell, Array.getElem?_modify, h]
theorem Blk.far (h : Blk w g t cs) {p : Addr} (hp : g ≠ p.block) (u : Value) : Blk (w.setCell p u) g t cs := (Below.heap_setCell w p u g hp).trans h
theorem Blk.ext (h : Blk w g t cs) (e : Ext w w') : Blk w' g t cs := (e.block g h.lt).trans h
theorem Blk.setRow (h : Blk w g t cs) (ds : Array Value) : Blk (w.setRow g ds) g t ds := by
  unfold Blk at h ⊢
  simp [World.setRow, Array.getElem?_modify, h]
end
def IsB (l : List Nat) : Prop := ∀ x ∈ l, x < 256
theorem IsB.nil : IsB [] := by intro x hx; simp at hx
theorem IsB.app {l m : List Nat} (h : IsB l) (k : IsB m) : IsB (l ++ m) := by
  intro x hx; rcases List.mem_append.1 hx with a | a
  · exact h x a
  · exact k x a
theorem IsB.one {x : Nat} (h : x < 256) : IsB [x] := by intro y hy; simp at hy; omega
theorem IsB.take {l : List Nat} (h : IsB l) (k : Nat) : IsB (l.take k) := fun x hx => h x (List.mem_of_mem_take hx)
theorem IsB.drop {l : List Nat} (h : IsB l) (k : Nat) : IsB (l.drop k) := fun x hx => h x (List.mem_of_mem_drop hx)
theorem IsB.get {l : List Nat} (h : IsB l) (k : Nat) : l.getD k 0 < 256 := by
  rw [List.getD_eq_getElem?_getD]
  cases hk : l[k]? with
  | none => simp
  | some x => exact h x (List.mem_of_getElem? hk)
def u8s (l : List Nat) : List Value := l.map fun x : Nat => Value.int .u8 (x : Int)
theorem u8s_len (l : List Nat) : (u8s l).length = l.length := by simp [u8s]
theorem u8s_one (l : List Nat) : ∀ u ∈ u8s l, u.oneCell' = true := by
  intro u hu; simp only [u8s, List.mem_map] at hu; obtain ⟨x, _, rfl⟩ := hu; rfl
theorem u8s_app (l m : List Nat) : u8s (l ++ m) = u8s l ++ u8s m := by simp [u8s]
/-- At A the bytes l lie in memory that is there (whatever A, if there is none). -/
def BytesAt (w : World) (A : Option Addr) (l : List Nat) : Prop :=
  IsB l ∧ l.length ≤ 9223372036854775807 ∧ (0 < l.length → ∃ b off, A = some ⟨b, off, none⟩ ∧ b < w.heap.size ∧ ∀ j, j < l.length → w.cell? ⟨b, off + j, none⟩ = some (.int .u8 ((l.getD j 0 : Nat) : Int)))
theorem BytesAt.nil (w : World) (A : Option Addr) : BytesAt w A [] := ⟨IsB.nil, by simp, fun h => absurd h (by simp)⟩
theorem BytesAt.ext {w w' : World} {A : Option Addr} {l : List Nat} (h : BytesAt w A l) (e : Ext w w') : BytesAt w' A l :=
  ⟨h.1, h.2.1, fun hp => by
    obtain ⟨b, off, hA, hb, hc⟩ := h.2.2 hp
    exact ⟨b, off, hA, Nat.lt_of_lt_of_le hb e.size, fun j hj => (e.cell (p := ⟨b, off + j, none⟩) hb).trans (hc j hj)⟩⟩
/-- Changes elsewhere. -/
theorem BytesAt.keep {w w' : World} {A : Option Addr} {l : List Nat} (h : BytesAt w A l) (hs : w.heap.size ≤ w'.heap.size) (e : ∀ b off, A = some ⟨b, off, none⟩ → b < w.heap.size → w'.heap[b]? = w.heap[b]?) : BytesAt w' A l :=
  ⟨h.1, h.2.1, fun hp => by
    obtain ⟨b, off, hA, hb, hc⟩ := h.2.2 hp
    exact ⟨b, off, hA, Nat.lt_of_lt_of_le hb hs, fun j hj => (World.cell?_of_block (a := ⟨b, off + j, none⟩) (e b off hA hb)).trans (hc j hj)⟩⟩
theorem BytesAt.drop {w : World} {A : Option Addr} {l : List Nat} (h : BytesAt w A l) (k cap : Nat) (hc : l.length ≤ cap) :
    BytesAt w (if cap = k then A else A.map (·.add (k * 1))) (l.drop k) := by
  refine ⟨h.1.drop k, by rw [List.length_drop]; have := h.2.1; omega, fun hp => ?_⟩
  rw [List.length_drop] at hp
  obtain ⟨b, off, rfl, hb, hcl⟩ := h.2.2 (by omega)
  rw [if_neg (by omega)]
  refine ⟨b, off + k, by
    simp only [Option.map_some, Option.some.injEq]
    unfold Addr.add
    split
    · rename_i h0; simp only [Addr.mk.injEq, and_true, true_and]; omega
    · simp, hb, fun j hj => ?_⟩
  rw [List.length_drop] at hj
  rw [Nat.add_assoc, hcl (k + j) (by omega)]
  simp [List.getD_eq_getElem?_getD, List.getElem?_drop]
theorem BytesAt.take {w : World} {A : Option Addr} {l : List Nat} (h : BytesAt w A l) (k : Nat) : BytesAt w A (l.take k) := by
  refine ⟨h.1.take k, by rw [List.length_take]; have := h.2.1; omega, fun hp => ?_⟩
  rw [List.length_take] at hp
  obtain ⟨b, off, rfl, hb, hcl⟩ := h.2.2 (by omega)
  refine ⟨b, off, rfl, hb, fun j hj => ?_⟩
  rw [List.length_take] at hj
  rw [hcl j (by omega)]
  simp [List.getD_eq_getElem?_getD, List.getElem?_take, show j < k by omega]
theorem info_u8 : (Try.prog.info? 5).map (fun i => (i.zero, i.size, i.bytes)) = some (some (.int .u8 0), 1, 1) := by kernel_rfl
theorem getD_lt {l : List Nat} {k : Nat} (h : k < l.length) : l.getD k 0 = l[k] := by simp [List.getD_eq_getElem?_getD, h]
theorem take_succ {l : List Nat} {k : Nat} (h : k < l.length) : l.take (k + 1) = l.take k ++ [l.getD k 0] := by
  rw [getD_lt h, List.take_succ_eq_append_getElem h]
/-- The slice v owns the bytes l: it is nil, or begins at the head of a block from B on. -/
def OwnB (B : Nat) (w : World) (v : Value) (l : List Nat) : Prop := w.ownsRow B 5 1 v l.length (u8s l) ∧ IsB l
theorem OwnB.at_ {B : Nat} {w : World} {v : Value} {l : List Nat} (h : OwnB B w v l) : ∃ A cap, v = .slice A l.length cap ∧ l.length ≤ cap ∧ cap ≤ 9223372036854775807 ∧ BytesAt w A l := by
  rcases h.1.2 with ⟨rfl, h0⟩ | ⟨g, cap, cur, rfl, hg, hh, hnc, hcp, hcs, htake⟩
  · obtain rfl : l = [] := List.length_eq_zero_iff.1 h0
    exact ⟨none, 0, rfl, Nat.le_refl _, by omega, BytesAt.nil _ _⟩
  · unfold maxLen at hcp
    refine ⟨_, cap, rfl, hnc, hcp, h.2, by omega, fun _ => ⟨g, 0, rfl, (Array.getElem?_eq_some_iff.1 hh).1, fun j hj => ?_⟩⟩
    have := h.1.cells (g := g) rfl j (Value.int .u8 ((l.getD j 0 : Nat) : Int)) (by rw [getD_lt hj]; simp [u8s, hj])
    have e : (⟨g, 0, none⟩ : Addr).add j = ⟨g, 0 + j, none⟩ := by unfold Addr.add; split <;> simp_all
    rw [e] at this
    exact this
theorem OwnB.kept {B : Nat} {w w' : World} {v : Value} {l : List Nat} (h : OwnB B w v l) {row : Option Nat} (hg : w.grownBy w' row) (hne : v.ownBlock = none ∨ v.ownBlock ≠ row) : OwnB B w' v l := ⟨h.1.kept hg hne, h.2⟩
theorem OwnB.alloc {B : Nat} {w : World} {v : Value} {l : List Nat} (h : OwnB B w v l) (o : Obj) : OwnB B (w.alloc o) v l := ⟨h.1.alloc o, h.2⟩
theorem OwnB.drew {B : Nat} {w : World} {v : Value} {l : List Nat} (h : OwnB B w v l) : OwnB B w.drew v l := h
theorem OwnB.nil_ (B : Nat) (w : World) : OwnB B w (.slice none 0 0) [] := ⟨World.ownsRow_nil _ _ _ _, IsB.nil⟩
theorem OwnB.keep {B : Nat} {w w' : World} {v : Value} {l : List Nat} (h : OwnB B w v l) (hs : w.heap.size ≤ w'.heap.size) (e : ∀ g, v.ownBlock = some g → w'.heap[g]? = w.heap[g]?) : OwnB B w' v l := by
  refine ⟨?_, h.2⟩
  obtain ⟨h1, h2 | ⟨g, cap, cur, hv, hg, hh, r⟩⟩ := h.1
  · exact ⟨h1, Or.inl h2⟩
  · exact ⟨h1, Or.inr ⟨g, cap, cur, hv, hg, by rw [e g (by rw [hv]; rfl)]; exact hh, r⟩⟩
theorem OwnB.ext {B : Nat} {w w' : World} {v : Value} {l : List Nat} (h : OwnB B w v l) (e : Ext w w') : OwnB B w' v l := by
  refine ⟨?_, h.2⟩
  obtain ⟨h1, h2 | ⟨g, cap, cur, hv, hg, hh, r⟩⟩ := h.1
  · exact ⟨h1, Or.inl h2⟩
  · exact ⟨h1, Or.inr ⟨g, cap, cur, hv, hg, by rw [e.block g (Array.getElem?_eq_some_iff.1 hh).1]; exact hh, r⟩⟩
theorem OwnB.less {B B' : Nat} {w : World} {v : Value} {l : List Nat} (h : OwnB B w v l) (hB : B' ≤ B) : OwnB B' w v l := by
  refine ⟨?_, h.2⟩
  obtain ⟨h1, h2 | ⟨g, cap, cur, hv, hg, r⟩⟩ := h.1
  · exact ⟨h1, Or.inl h2⟩
  · exact ⟨h1, Or.inr ⟨g, cap, cur, hv, by omega, r⟩⟩
/-- What was made just now, whole. -/
theorem own_all {w : World} {B : Nat} {e : TypeId} {g n : Nat} {xs : List Value} (h : w.ownsRow B e 1 (.slice (some ⟨g, 0, none⟩) n n) n xs) : w.heap[g]? = some (.cells xs.toArray e (0, 0)) ∧ B ≤ g := by
  rcases h.2 with ⟨h0, _⟩ | ⟨g', cap, cur, hv, hg, hh, hnc, hcp, hcs, htake⟩
  · cases h0
  · injection hv with a b c
    injection a with a
    injection a with a
    subst a c
    refine ⟨?_, hg⟩
    rw [hh]
    have : cur.toList = xs := by
      rw [← htake, List.take_of_length_le (by simp; omega)]
    rw [← this]
theorem own_of {w : World} {B : Nat} {g n cap : Nat} {l m : List Nat} (hB : B ≤ g) (hh : w.heap[g]? = some (.cells (u8s (l ++ m)).toArray 5 (0, 0))) (hn : l.length = n) (hc : cap = n + m.length) (hm : cap ≤ 9223372036854775807) (hb : IsB l) : OwnB B w (.slice (some ⟨g, 0, none⟩) n cap) l := by
  subst hn hc
  refine ⟨⟨by rw [u8s_len]; omega, Or.inr ⟨g, _, _, rfl, hB, hh, by omega, by unfold maxLen; omega, by simp [u8s], ?_⟩⟩, hb⟩
  rw [u8s_app]; simp [u8s]
theorem made8 (n : Nat) : (madeCells (Value.int .u8 0).cells (n * 1)).toList = u8s (List.replicate n 0) := by
  simp only [u8s, madeCells, Value.cells, Nat.mul_one, List.map_replicate]
  apply List.ext_getElem
  · simp
  · intro i h1 h2
    simp [Nat.mod_one]
def OwnRet (l : List Nat) (w : World) (e : Ending) (w' : World) : Prop := ∃ v, e = .returned v ∧ OwnB w.heap.size w' v l ∧ Ext w w'
end Go.Proofs.Ytjmigglibidbdaa
