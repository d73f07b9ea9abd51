/- Numbers of 64 bits in memory: a slice that reads as a list of numbers below 2^64. No condition. -/
import Derived.Test.YtjmigglibidbdaaBpQ
import Derived.Test.YtjmigglibidbdaaByB
import Derived.Test.YtjmigglibidbdaaTapS
namespace Go.Proofs.Ytjmigglibidbdaa
set_option linter.unusedVariables false
set_option linter.unusedSimpArgs false
open Go Go.RowKit
theorem IsQ.nil : IsQ [] := by intro x hx; simp at hx
theorem IsQ.app {l m : List Nat} (h : IsQ l) (k : IsQ m) : IsQ (l ++ m) := by
  intro x hx; rcases List.mem_append.1 hx with a | a
  · exact h x a
  · exact k x a
theorem IsQ.one {x : Nat} (h : x < 18446744073709551616) : IsQ [x] := by intro y hy; simp at hy; omega
theorem IsQ.take {l : List Nat} (h : IsQ l) (k : Nat) : IsQ (l.take k) := fun x hx => h x (List.mem_of_mem_take hx)
theorem IsQ.drop {l : List Nat} (h : IsQ l) (k : Nat) : IsQ (l.drop k) := fun x hx => h x (List.mem_of_mem_drop hx)
theorem IsQ.get {l : List Nat} (h : IsQ l) (k : Nat) : l.getD k 0 < 18446744073709551616 := by
  rw [List.getD_eq_getElem?_getD]
  cases hk : l[k]? with
  | none => simp
  | some x => exact h x (List.mem_of_getElem? hk)
def q8s (l : List Nat) : List Value := l.map fun x : Nat => Value.int .u64 (x : Int)
theorem q8s_len (l : List Nat) : (q8s l).length = l.length := by simp [q8s]
theorem q8s_one (l : List Nat) : ∀ u ∈ q8s l, u.oneCell' = true := by
  intro u hu; simp only [q8s, List.mem_map] at hu; obtain ⟨x, _, rfl⟩ := hu; rfl
theorem q8s_app (l m : List Nat) : q8s (l ++ m) = q8s l ++ q8s m := by simp [q8s]
/-- At A the words l lie in memory that is there (whatever A, if there is none). -/
def WordsAt (w : World) (A : Option Addr) (l : List Nat) : Prop :=
  IsQ l ∧ l.length ≤ 9223372036854775807 ∧ (0 < l.length → ∃ b off, A = some ⟨b, off, none⟩ ∧ b < w.heap.size ∧ ∀ j, j < l.length → w.cell? ⟨b, off + j, none⟩ = some (.int .u64 ((l.getD j 0 : Nat) : Int)))
theorem WordsAt.nil (w : World) (A : Option Addr) : WordsAt w A [] := ⟨IsQ.nil, by simp, fun h => absurd h (by simp)⟩
theorem WordsAt.ext {w w' : World} {A : Option Addr} {l : List Nat} (h : WordsAt w A l) (e : Ext w w') : WordsAt w' A l :=
  ⟨h.1, h.2.1, fun hp => by
    obtain ⟨b, off, hA, hb, hc⟩ := h.2.2 hp
    exact ⟨b, off, hA, Nat.lt_of_lt_of_le hb e.size, fun j hj => (e.cell (p := ⟨b, off + j, none⟩) hb).trans (hc j hj)⟩⟩
/-- Changes elsewhere. -/
theorem WordsAt.keep {w w' : World} {A : Option Addr} {l : List Nat} (h : WordsAt w A l) (hs : w.heap.size ≤ w'.heap.size) (e : ∀ b off, A = some ⟨b, off, none⟩ → b < w.heap.size → w'.heap[b]? = w.heap[b]?) : WordsAt w' A l :=
  ⟨h.1, h.2.1, fun hp => by
    obtain ⟨b, off, hA, hb, hc⟩ := h.2.2 hp
    exact ⟨b, off, hA, Nat.lt_of_lt_of_le hb hs, fun j hj => (World.cell?_of_block (a := ⟨b, off + j, none⟩) (e b off hA hb)).trans (hc j hj)⟩⟩
theorem WordsAt.drop {w : World} {A : Option Addr} {l : List Nat} (h : WordsAt w A l) (k cap : Nat) (hc : l.length ≤ cap) :
    WordsAt w (if cap = k then A else A.map (·.add (k * 1))) (l.drop k) := by
  refine ⟨h.1.drop k, by rw [List.length_drop]; have := h.2.1; omega, fun hp => ?_⟩
  rw [List.length_drop] at hp
  obtain ⟨b, off, rfl, hb, hcl⟩ := h.2.2 (by omega)
  rw [if_neg (by omega)]
  refine ⟨b, off + k, by
    simp only [Option.map_some, Option.some.injEq]
    unfold Addr.add
    split
    · rename_i h0; simp only [Addr.mk.injEq, and_true, true_and]; omega
    · simp, hb, fun j hj => ?_⟩
  rw [List.length_drop] at hj
  rw [Nat.add_assoc, hcl (k + j) (by omega)]
  simp [List.getD_eq_getElem?_getD, List.getElem?_drop]
theorem WordsAt.take {w : World} {A : Option Addr} {l : List Nat} (h : WordsAt w A l) (k : Nat) : WordsAt w A (l.take k) := by
  refine ⟨h.1.take k, by rw [List.length_take]; have := h.2.1; omega, fun hp => ?_⟩
  rw [List.length_take] at hp
  obtain ⟨b, off, rfl, hb, hcl⟩ := h.2.2 (by omega)
  refine ⟨b, off, rfl, hb, fun j hj => ?_⟩
  rw [List.length_take] at hj
  rw [hcl j (by omega)]
  simp [List.getD_eq_getElem?_getD, List.getElem?_take, show j < k by omega]
theorem info_w64 : (Try.prog.info? 52).map (fun i => (i.zero, i.size, i.bytes)) = some (some (.int .u64 0), 1, 8) := by kernel_rfl
/-- The slice v owns the words l: it is nil, or begins at the head of a block from B on. -/
def OwnQ (B : Nat) (w : World) (v : Value) (l : List Nat) : Prop := w.ownsRow B 52 1 v l.length (q8s l) ∧ IsQ l
theorem OwnQ.at_ {B : Nat} {w : World} {v : Value} {l : List Nat} (h : OwnQ B w v l) : ∃ A cap, v = .slice A l.length cap ∧ l.length ≤ cap ∧ cap ≤ 9223372036854775807 ∧ WordsAt w A l := by
  rcases h.1.2 with ⟨rfl, h0⟩ | ⟨g, cap, cur, rfl, hg, hh, hnc, hcp, hcs, htake⟩
  · obtain rfl : l = [] := List.length_eq_zero_iff.1 h0
    exact ⟨none, 0, rfl, Nat.le_refl _, by omega, WordsAt.nil _ _⟩
  · unfold maxLen at hcp
    refine ⟨_, cap, rfl, hnc, hcp, h.2, by omega, fun _ => ⟨g, 0, rfl, (Array.getElem?_eq_some_iff.1 hh).1, fun j hj => ?_⟩⟩
    have := h.1.cells (g := g) rfl j (Value.int .u64 ((l.getD j 0 : Nat) : Int)) (by rw [getD_lt hj]; simp [q8s, hj])
    have e : (⟨g, 0, none⟩ : Addr).add j = ⟨g, 0 + j, none⟩ := by unfold Addr.add; split <;> simp_all
    rw [e] at this
    exact this
theorem OwnQ.kept {B : Nat} {w w' : World} {v : Value} {l : List Nat} (h : OwnQ B w v l) {row : Option Nat} (hg : w.grownBy w' row) (hne : v.ownBlock = none ∨ v.ownBlock ≠ row) : OwnQ B w' v l := ⟨h.1.kept hg hne, h.2⟩
theorem OwnQ.alloc {B : Nat} {w : World} {v : Value} {l : List Nat} (h : OwnQ B w v l) (o : Obj) : OwnQ B (w.alloc o) v l := ⟨h.1.alloc o, h.2⟩
theorem OwnQ.drew {B : Nat} {w : World} {v : Value} {l : List Nat} (h : OwnQ B w v l) : OwnQ B w.drew v l := h
theorem OwnQ.nil_ (B : Nat) (w : World) : OwnQ B w (.slice none 0 0) [] := ⟨World.ownsRow_nil _ _ _ _, IsQ.nil⟩
theorem OwnQ.keep {B : Nat} {w w' : World} {v : Value} {l : List Nat} (h : OwnQ B w v l) (hs : w.heap.size ≤ w'.heap.size) (e : ∀ g, v.ownBlock = some g → w'.heap[g]? = w.heap[g]?) : OwnQ B w' v l := by
  refine ⟨?_, h.2⟩
  obtain ⟨h1, h2 | ⟨g, cap, cur, hv, hg, hh, r⟩⟩ := h.1
  · exact ⟨h1, Or.inl h2⟩
  · exact ⟨h1, Or.inr ⟨g, cap, cur, hv, hg, by rw [e g (by rw [hv]; rfl)]; exact hh, r⟩⟩
theorem OwnQ.ext {B : Nat} {w w' : World} {v : Value} {l : List Nat} (h : OwnQ B w v l) (e : Ext w w') : OwnQ B w' v l := by
  refine ⟨?_, h.2⟩
  obtain ⟨h1, h2 | ⟨g, cap, cur, hv, hg, hh, r⟩⟩ := h.1
  · exact ⟨h1, Or.inl h2⟩
  · exact ⟨h1, Or.inr ⟨g, cap, cur, hv, hg, by rw [e.block g (Array.getElem?_eq_some_iff.1 hh).1]; exact hh, r⟩⟩
theorem OwnQ.less {B B' : Nat} {w : World} {v : Value} {l : List Nat} (h : OwnQ B w v l) (hB : B' ≤ B) : OwnQ B' w v l := by
  refine ⟨?_, h.2⟩
  obtain ⟨h1, h2 | ⟨g, cap, cur, hv, hg, r⟩⟩ := h.1
  · exact ⟨h1, Or.inl h2⟩
  · exact ⟨h1, Or.inr ⟨g, cap, cur, hv, by omega, r⟩⟩
theorem own_ofQ {w : World} {B : Nat} {g n cap : Nat} {l m : List Nat} (hB : B ≤ g) (hh : w.heap[g]? = some (.cells (q8s (l ++ m)).toArray 52 (0, 0))) (hn : l.length = n) (hc : cap = n + m.length) (hm : cap ≤ 9223372036854775807) (hb : IsQ l) : OwnQ B w (.slice (some ⟨g, 0, none⟩) n cap) l := by
  subst hn hc
  refine ⟨⟨by rw [q8s_len]; omega, Or.inr ⟨g, _, _, rfl, hB, hh, by omega, by unfold maxLen; omega, by simp [q8s], ?_⟩⟩, hb⟩
  rw [q8s_app]; simp [q8s]
theorem made64 (n : Nat) : (madeCells (Value.int .u64 0).cells (n * 1)).toList = q8s (List.replicate n 0) := by
  simp only [q8s, madeCells, Value.cells, Nat.mul_one, List.map_replicate]
  apply List.ext_getElem
  · simp
  · intro i h1 h2
    simp [Nat.mod_one]
def OwnRetQ (l : List Nat) (w : World) (e : Ending) (w' : World) : Prop := ∃ v, e = .returned v ∧ OwnQ w.heap.size w' v l ∧ Ext w w'
theorem run_append64 (B : Nat) (w : World) (ty : TypeId) (v : Value) (l0 l : List Nat) (hown : OwnQ B w v l0) (A : Option Addr) (m c : Nat) (hb : WordsAt w A l) (hm : l.length = m) (hlen : l0.length + l.length ≤ 17592186044416) (hbase : B ≤ w.heap.size) :
    ∃ v' w', (Builtin.append_ #[57, 57] ty #[v, .slice A m c]).run Try.prog w = .ok v' w' ∧ OwnQ B w' v' (l0 ++ l) ∧ w.grownBy w' v.ownBlock ∧ (v'.ownBlock = v.ownBlock ∨ v'.ownBlock = some w.heap.size) := by
  subst hm
  obtain ⟨i0, hi0, hz0, hz1, hz2⟩ := info_parts info_w64
  have h63 : l0.length + l.length ≤ maxLen := by unfold maxLen; omega
  rcases A with _ | ad
  · have h0 : l = [] := by
      rcases Nat.eq_zero_or_pos l.length with h | h
      · exact List.length_eq_zero_iff.1 h
      · obtain ⟨b, off, h', _⟩ := hb.2.2 h
        cases h'
    subst h0
    refine ⟨v, w, ?_, by rw [List.append_nil]; exact hown, World.grownBy.refl w _, .inl rfl⟩
    rcases hown.1.2 with ⟨rfl, _⟩ | ⟨g, cap, cur, rfl, _, _, hnc, _⟩
    · simp [Builtin.append_, run_underlying Try.underlying57, sizeOf, typeInfo, hi0, Builtin.lenOf, Builtin.firstCells]
    · simp [Builtin.append_, run_underlying Try.underlying57, sizeOf, typeInfo, hi0, Builtin.lenOf, Builtin.firstCells, hnc, storeCells]
  · have hcells : ∀ j u, (q8s l)[j]? = some u → w.cell? (ad.add j) = some u := by
      intro j u hu
      have hj : j < l.length := by
        rcases Nat.lt_or_ge j (q8s l).length with h | h
        · rwa [q8s_len] at h
        · rw [List.getElem?_eq_none h] at hu; cases hu
      obtain ⟨b, off, h', _, hc⟩ := hb.2.2 (by omega)
      obtain rfl : ad = ⟨b, off, none⟩ := Option.some.inj h'
      rw [add_at, hc j hj, ← hu, getD_lt hj]
      simp [q8s, hj]
    obtain ⟨v', w', hrun, h2, h3, _, h5⟩ := run_append_own_at (P := Try.prog) w B 57 ty 52 i0 _ 1 8 Try.underlying57 hi0 hz0 hz1 hz2 rfl (by omega) v l0.length (q8s l0) hown.1 ad l.length c (q8s l) (by rw [q8s_len]; omega) hcells (q8s_one l) h63 (by omega) hbase
    refine ⟨v', w', hrun, ⟨?_, hown.2.app hb.1⟩, h3, h5⟩
    rw [q8s_app, List.length_append]
    exact h2
theorem wl_append64 {ops : Array Oper} {rest : List Oper} {o : Oper} {a : Act} {Q : Exit → Act → World → Prop} {w : World} (hgd : o.guard = none) (s x : Operand)
    (ho : o.op = .call { callee := .builtin .append, args := #[s, x], argTypes := #[57, 57] })
    (B : Nat) (v : Value) (l0 l : List Nat) (hs : a.eval s = v) (hown : OwnQ B w v l0) (A : Option Addr) (m c : Nat) (hx : a.eval x = .slice A m c) (hb : WordsAt w A l) (hm : l.length = m) (hlen : l0.length + l.length ≤ 17592186044416) (hbase : B ≤ w.heap.size)
    (h : ∀ v' w', OwnQ B w' v' (l0 ++ l) → w.grownBy w' v.ownBlock → (v'.ownBlock = v.ownBlock ∨ v'.ownBlock = some w.heap.size) → wpList Try.prog ops Q rest (a.put o.dst v') w') : wpList Try.prog ops Q (o :: rest) a w :=
  wpList_plain hgd fun _ hK => by
    obtain ⟨v', w', hrun, h2, h3, h4⟩ := run_append64 B w o.type v l0 l hown A m c hb hm hlen hbase
    unfold Oper.wp execOp
    simp only [ho, resolve, invoke, builtin, Sem.run_bind, Sem.run_pure, Result.andThen_ok, List.map_toArray, List.map_cons, List.map_nil, hs, hx, hrun]
    exact hK _ _ (h v' w' h2 h3 h4)
/-- The element that append lays down first. -/
theorem one_atQ (w : World) (x : Nat) (hx : x < 18446744073709551616) (u : Value) (hu : u = .int .u64 (x : Int)) : WordsAt (w.alloc (.cells #[u] 52)) (some ⟨w.heap.size, 0, none⟩) [x] := by
  subst hu
  refine ⟨IsQ.one hx, by simp, fun _ => ⟨w.heap.size, 0, rfl, by simp, fun j hj => ?_⟩⟩
  obtain rfl : j = 0 := by simpa using hj
  rw [World.cell?_alloc_at _ _ _ _ rfl]; rfl
theorem new_atQ (w : World) (l : List Nat) (hl : IsQ l) (hm : l.length ≤ 9223372036854775807) (cs : Array Value) (hc : cs = (q8s l).toArray) : WordsAt (w.alloc (.cells cs 52)) (some ⟨w.heap.size, 0, none⟩) l := by
  subst hc
  refine ⟨hl, hm, fun _ => ⟨w.heap.size, 0, rfl, by simp, fun j hj => ?_⟩⟩
  rw [Nat.zero_add, cell_of_row _ w.heap.size j _ _ _ (heap_alloc_new w _), getD_lt hj]
  simp [q8s, hj]
/-- A row that the call owns, and what it grew to: nothing older changed. -/
theorem below_grownQ {W w w' : World} {v : Value} {l : List Nat} {B : Nat} (h : Below W.heap.size W w) (hB : W.heap.size ≤ B) (hown : OwnQ B w v l) (hg : w.grownBy w' v.ownBlock) : Below W.heap.size W w' :=
  h.grown hg h.size (fun k hk => by
    obtain ⟨h1, h2⟩ := hown.1.lt k hk
    omega)
theorem OwnQ.upd {B b : Nat} {w w' : World} {v : Value} {l : List Nat} (h : OwnQ B w v l) (u : Upd b w w') (hb : b < B) : OwnQ B w' v l := by
  refine ⟨?_, h.2⟩
  obtain ⟨h1, h2 | ⟨g, cap, cur, hv, hg, hh, r⟩⟩ := h.1
  · exact ⟨h1, Or.inl h2⟩
  · exact ⟨h1, Or.inr ⟨g, cap, cur, hv, hg, by rw [u.2.2.2.2 g (Array.getElem?_eq_some_iff.1 hh).1 (by omega)]; exact hh, r⟩⟩
theorem WordsAt.upd {b : Nat} {w w' : World} {A : Option Addr} {l : List Nat} (h : WordsAt w A l) (u : Upd b w w') (hb : ∀ g off, A = some ⟨g, off, none⟩ → g ≠ b) : WordsAt w' A l :=
  h.keep u.2.2.2.1 fun g off hA hg => u.2.2.2.2 g hg (hb g off hA)
theorem run_mk64 (n m : Nat) (hnm : n ≤ m) (hm : m ≤ 35184372088832) (w : World) : (Instr.makeSlice 57 (.int .i64 (n : Int)) (.int .i64 (m : Int))).run Try.prog w = .ok (.slice (some ⟨w.heap.size, 0, none⟩) n m) (w.alloc (.cells (q8s (List.replicate m 0)).toArray 52)) := by
  obtain ⟨i0, hi0, hz0, hz1, hz2⟩ := info_parts info_w64
  have := run_make (P := Try.prog) w 57 52 i0 (.int .u64 0) Try.underlying57 hi0 hz0 .i64 .i64 (n : Int) (m : Int) (by omega) (by omega) (by rw [hz2]; omega) (by omega)
  rw [this, hz1, Int.toNat_natCast, Int.toNat_natCast]
  have e : madeCells (Value.int .u64 0).cells (m * 1) = (q8s (List.replicate m 0)).toArray := by
    rw [← made64 m]
  rw [e]
theorem idx64 (b off N cap j : Nat) (h : j < N) (w : World) : (Instr.indexAt 57 (.slice (some ⟨b, off, none⟩) N cap) (.int .i64 (j : Int))).run Try.prog w = .ok (.pointer (some ⟨b, off + j, none⟩)) w := by
  have hz := Try.sizeOf52
  have he : Try.prog.elem 57 = 52 := by kernel_rfl
  have hr := run_indexAt_slice (P := Try.prog) (w := w) 57 ⟨b, off, none⟩ N cap .i64 (j : Int) (by kernel_rfl)
  rw [hr, if_pos ⟨by omega, by omega⟩, he, hz]
  simp [Result.andThen, add_at]
end Go.Proofs.Ytjmigglibidbdaa
