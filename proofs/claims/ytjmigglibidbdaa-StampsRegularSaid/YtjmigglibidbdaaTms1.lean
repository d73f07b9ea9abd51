/- Numbers of type int64 in memory; lists of times as codes; distances; whether lists increase. No condition but that slices read as what they hold. -/
import Derived.Test.YtjmigglibidbdaaBpQ
import Derived.Test.YtjmigglibidbdaaByB
import Derived.Test.YtjmigglibidbdaaTapS
import Derived.Test.YtjmigglibidbdaaNmL
namespace Go.Proofs.Ytjmigglibidbdaa
set_option linter.unusedVariables false
set_option linter.unusedSimpArgs false
open Go Go.RowKit
def IsT (l : List Int) : Prop := ∀ x ∈ l, I64 x
theorem getDT {l : List Int} {k : Nat} (h : k < l.length) : l.getD k 0 = l[k] := by simp [List.getD_eq_getElem?_getD, h]
theorem takeT_succ {l : List Int} {k : Nat} (h : k < l.length) : l.take (k + 1) = l.take k ++ [l.getD k 0] := by
  rw [getDT h, List.take_succ_eq_append_getElem h]
theorem IsT.nil : IsT [] := by intro x hx; simp at hx
theorem IsT.app {l m : List Int} (h : IsT l) (k : IsT m) : IsT (l ++ m) := by
  intro x hx; rcases List.mem_append.1 hx with a | a
  · exact h x a
  · exact k x a
theorem IsT.one {x : Int} (h : I64 x) : IsT [x] := by intro y hy; simp at hy; subst hy; exact h
theorem IsT.take {l : List Int} (h : IsT l) (k : Nat) : IsT (l.take k) := fun x hx => h x (List.mem_of_mem_take hx)
theorem IsT.drop {l : List Int} (h : IsT l) (k : Nat) : IsT (l.drop k) := fun x hx => h x (List.mem_of_mem_drop hx)
theorem IsT.get {l : List Int} (h : IsT l) (k : Nat) : I64 (l.getD k 0) := by
  rw [List.getD_eq_getElem?_getD]
  cases hk : l[k]? with
  | none => exact ⟨by simp, by simp⟩
  | some x => exact h x (List.mem_of_getElem? hk)
def t8s (l : List Int) : List Value := l.map fun x : Int => Value.int .i64 x
theorem t8s_len (l : List Int) : (t8s l).length = l.length := by simp [t8s]
theorem t8s_one (l : List Int) : ∀ u ∈ t8s l, u.oneCell' = true := by
  intro u hu; simp only [t8s, List.mem_map] at hu; obtain ⟨x, _, rfl⟩ := hu; rfl
theorem t8s_app (l m : List Int) : t8s (l ++ m) = t8s l ++ t8s m := by simp [t8s]
/-- At A the words l lie in memory that is there (whatever A, if there is none). -/
def TimesAt (w : World) (A : Option Addr) (l : List Int) : Prop :=
  IsT l ∧ l.length ≤ 9223372036854775807 ∧ (0 < l.length → ∃ b off, A = some ⟨b, off, none⟩ ∧ b < w.heap.size ∧ ∀ j, j < l.length → w.cell? ⟨b, off + j, none⟩ = some (.int .i64 (l.getD j 0)))
theorem TimesAt.nil (w : World) (A : Option Addr) : TimesAt w A [] := ⟨IsT.nil, by simp, fun h => absurd h (by simp)⟩
theorem TimesAt.ext {w w' : World} {A : Option Addr} {l : List Int} (h : TimesAt w A l) (e : Ext w w') : TimesAt w' A l :=
  ⟨h.1, h.2.1, fun hp => by
    obtain ⟨b, off, hA, hb, hc⟩ := h.2.2 hp
    exact ⟨b, off, hA, Nat.lt_of_lt_of_le hb e.size, fun j hj => (e.cell (p := ⟨b, off + j, none⟩) hb).trans (hc j hj)⟩⟩
/-- Changes elsewhere. -/
theorem TimesAt.keep {w w' : World} {A : Option Addr} {l : List Int} (h : TimesAt w A l) (hs : w.heap.size ≤ w'.heap.size) (e : ∀ b off, A = some ⟨b, off, none⟩ → b < w.heap.size → w'.heap[b]? = w.heap[b]?) : TimesAt w' A l :=
  ⟨h.1, h.2.1, fun hp => by
    obtain ⟨b, off, hA, hb, hc⟩ := h.2.2 hp
    exact ⟨b, off, hA, Nat.lt_of_lt_of_le hb hs, fun j hj => (World.cell?_of_block (a := ⟨b, off + j, none⟩) (e b off hA hb)).trans (hc j hj)⟩⟩
theorem TimesAt.drop {w : World} {A : Option Addr} {l : List Int} (h : TimesAt w A l) (k cap : Nat) (hc : l.length ≤ cap) :
    TimesAt w (if cap = k then A else A.map (·.add (k * 1))) (l.drop k) := by
  refine ⟨h.1.drop k, by rw [List.length_drop]; have := h.2.1; omega, fun hp => ?_⟩
  rw [List.length_drop] at hp
  obtain ⟨b, off, rfl, hb, hcl⟩ := h.2.2 (by omega)
  rw [if_neg (by omega)]
  refine ⟨b, off + k, by
    simp only [Option.map_some, Option.some.injEq]
    unfold Addr.add
    split
    · rename_i h0; simp only [Addr.mk.injEq, and_true, true_and]; omega
    · simp, hb, fun j hj => ?_⟩
  rw [List.length_drop] at hj
  rw [Nat.add_assoc, hcl (k + j) (by omega)]
  simp [List.getD_eq_getElem?_getD, List.getElem?_drop]
theorem TimesAt.take {w : World} {A : Option Addr} {l : List Int} (h : TimesAt w A l) (k : Nat) : TimesAt w A (l.take k) := by
  refine ⟨h.1.take k, by rw [List.length_take]; have := h.2.1; omega, fun hp => ?_⟩
  rw [List.length_take] at hp
  obtain ⟨b, off, rfl, hb, hcl⟩ := h.2.2 (by omega)
  refine ⟨b, off, rfl, hb, fun j hj => ?_⟩
  rw [List.length_take] at hj
  rw [hcl j (by omega)]
  simp [List.getD_eq_getElem?_getD, List.getElem?_take, show j < k by omega]
theorem info_t64 : (Try.prog.info? 2).map (fun i => (i.zero, i.size, i.bytes)) = some (some (.int .i64 0), 1, 8) := by kernel_rfl
/-- The slice v owns the words l: it is nil, or begins at the head of a block from B on. -/
def OwnT (B : Nat) (w : World) (v : Value) (l : List Int) : Prop := w.ownsRow B 2 1 v l.length (t8s l) ∧ IsT l
theorem OwnT.at_ {B : Nat} {w : World} {v : Value} {l : List Int} (h : OwnT B w v l) : ∃ A cap, v = .slice A l.length cap ∧ l.length ≤ cap ∧ cap ≤ 9223372036854775807 ∧ TimesAt w A l := by
  rcases h.1.2 with ⟨rfl, h0⟩ | ⟨g, cap, cur, rfl, hg, hh, hnc, hcp, hcs, htake⟩
  · obtain rfl : l = [] := List.length_eq_zero_iff.1 h0
    exact ⟨none, 0, rfl, Nat.le_refl _, by omega, TimesAt.nil _ _⟩
  · unfold maxLen at hcp
    refine ⟨_, cap, rfl, hnc, hcp, h.2, by omega, fun _ => ⟨g, 0, rfl, (Array.getElem?_eq_some_iff.1 hh).1, fun j hj => ?_⟩⟩
    have := h.1.cells (g := g) rfl j (Value.int .i64 (l.getD j 0)) (by rw [getDT hj]; simp [t8s, hj])
    have e : (⟨g, 0, none⟩ : Addr).add j = ⟨g, 0 + j, none⟩ := by unfold Addr.add; split <;> simp_all
    rw [e] at this
    exact this
theorem OwnT.kept {B : Nat} {w w' : World} {v : Value} {l : List Int} (h : OwnT B w v l) {row : Option Nat} (hg : w.grownBy w' row) (hne : v.ownBlock = none ∨ v.ownBlock ≠ row) : OwnT B w' v l := ⟨h.1.kept hg hne, h.2⟩
theorem OwnT.alloc {B : Nat} {w : World} {v : Value} {l : List Int} (h : OwnT B w v l) (o : Obj) : OwnT B (w.alloc o) v l := ⟨h.1.alloc o, h.2⟩
theorem OwnT.drew {B : Nat} {w : World} {v : Value} {l : List Int} (h : OwnT B w v l) : OwnT B w.drew v l := h
theorem OwnT.nil_ (B : Nat) (w : World) : OwnT B w (.slice none 0 0) [] := ⟨World.ownsRow_nil _ _ _ _, IsT.nil⟩
theorem OwnT.keep {B : Nat} {w w' : World} {v : Value} {l : List Int} (h : OwnT B w v l) (hs : w.heap.size ≤ w'.heap.size) (e : ∀ g, v.ownBlock = some g → w'.heap[g]? = w.heap[g]?) : OwnT B w' v l := by
  refine ⟨?_, h.2⟩
  obtain ⟨h1, h2 | ⟨g, cap, cur, hv, hg, hh, r⟩⟩ := h.1
  · exact ⟨h1, Or.inl h2⟩
  · exact ⟨h1, Or.inr ⟨g, cap, cur, hv, hg, by rw [e g (by rw [hv]; rfl)]; exact hh, r⟩⟩
theorem OwnT.ext {B : Nat} {w w' : World} {v : Value} {l : List Int} (h : OwnT B w v l) (e : Ext w w') : OwnT B w' v l := by
  refine ⟨?_, h.2⟩
  obtain ⟨h1, h2 | ⟨g, cap, cur, hv, hg, hh, r⟩⟩ := h.1
  · exact ⟨h1, Or.inl h2⟩
  · exact ⟨h1, Or.inr ⟨g, cap, cur, hv, hg, by rw [e.block g (Array.getElem?_eq_some_iff.1 hh).1]; exact hh, r⟩⟩
theorem OwnT.less {B B' : Nat} {w : World} {v : Value} {l : List Int} (h : OwnT B w v l) (hB : B' ≤ B) : OwnT B' w v l := by
  refine ⟨?_, h.2⟩
  obtain ⟨h1, h2 | ⟨g, cap, cur, hv, hg, r⟩⟩ := h.1
  · exact ⟨h1, Or.inl h2⟩
  · exact ⟨h1, Or.inr ⟨g, cap, cur, hv, by omega, r⟩⟩
theorem own_ofT {w : World} {B : Nat} {g n cap : Nat} {l m : List Int} (hB : B ≤ g) (hh : w.heap[g]? = some (.cells (t8s (l ++ m)).toArray 2 (0, 0))) (hn : l.length = n) (hc : cap = n + m.length) (hm : cap ≤ 9223372036854775807) (hb : IsT l) : OwnT B w (.slice (some ⟨g, 0, none⟩) n cap) l := by
  subst hn hc
  refine ⟨⟨by rw [t8s_len]; omega, Or.inr ⟨g, _, _, rfl, hB, hh, by omega, by unfold maxLen; omega, by simp [t8s], ?_⟩⟩, hb⟩
  rw [t8s_app]; simp [t8s]
theorem madeT (n : Nat) : (madeCells (Value.int .i64 0).cells (n * 1)).toList = t8s (List.replicate n 0) := by
  simp only [t8s, madeCells, Value.cells, Nat.mul_one, List.map_replicate]
  apply List.ext_getElem
  · simp
  · intro i h1 h2
    simp [Nat.mod_one]
def OwnRetT (l : List Int) (w : World) (e : Ending) (w' : World) : Prop := ∃ v, e = .returned v ∧ OwnT w.heap.size w' v l ∧ Ext w w'
theorem run_appendT (B : Nat) (w : World) (ty : TypeId) (v : Value) (l0 l : List Int) (hown : OwnT B w v l0) (A : Option Addr) (m c : Nat) (hb : TimesAt w A l) (hm : l.length = m) (hlen : l0.length + l.length ≤ 17592186044416) (hbase : B ≤ w.heap.size) :
    ∃ v' w', (Builtin.append_ #[22, 22] ty #[v, .slice A m c]).run Try.prog w = .ok v' w' ∧ OwnT B w' v' (l0 ++ l) ∧ w.grownBy w' v.ownBlock ∧ (v'.ownBlock = v.ownBlock ∨ v'.ownBlock = some w.heap.size) := by
  subst hm
  obtain ⟨i0, hi0, hz0, hz1, hz2⟩ := info_parts info_t64
  have h63 : l0.length + l.length ≤ maxLen := by unfold maxLen; omega
  rcases A with _ | ad
  · have h0 : l = [] := by
      rcases Nat.eq_zero_or_pos l.length with h | h
      · exact List.length_eq_zero_iff.1 h
      · obtain ⟨b, off, h', _⟩ := hb.2.2 h
        cases h'
    subst h0
    refine ⟨v, w, ?_, by rw [List.append_nil]; exact hown, World.grownBy.refl w _, .inl rfl⟩
    rcases hown.1.2 with ⟨rfl, _⟩ | ⟨g, cap, cur, rfl, _, _, hnc, _⟩
    · simp [Builtin.append_, run_underlying Try.underlying22, sizeOf, typeInfo, hi0, Builtin.lenOf, Builtin.firstCells]
    · simp [Builtin.append_, run_underlying Try.underlying22, sizeOf, typeInfo, hi0, Builtin.lenOf, Builtin.firstCells, hnc, storeCells]
  · have hcells : ∀ j u, (t8s l)[j]? = some u → w.cell? (ad.add j) = some u := by
      intro j u hu
      have hj : j < l.length := by
        rcases Nat.lt_or_ge j (t8s l).length with h | h
        · rwa [t8s_len] at h
        · rw [List.getElem?_eq_none h] at hu; cases hu
      obtain ⟨b, off, h', _, hc⟩ := hb.2.2 (by omega)
      obtain rfl : ad = ⟨b, off, none⟩ := Option.some.inj h'
      rw [add_at, hc j hj, ← hu, getDT hj]
      simp [t8s, hj]
    obtain ⟨v', w', hrun, h2, h3, _, h5⟩ := run_append_own_at (P := Try.prog) w B 22 ty 2 i0 _ 1 8 Try.underlying22 hi0 hz0 hz1 hz2 rfl (by omega) v l0.length (t8s l0) hown.1 ad l.length c (t8s l) (by rw [t8s_len]; omega) hcells (t8s_one l) h63 (by omega) hbase
    refine ⟨v', w', hrun, ⟨?_, hown.2.app hb.1⟩, h3, h5⟩
    rw [t8s_app, List.length_append]
    exact h2
theorem wl_appendT {ops : Array Oper} {rest : List Oper} {o : Oper} {a : Act} {Q : Exit → Act → World → Prop} {w : World} (hgd : o.guard = none) (s x : Operand)
    (ho : o.op = .call { callee := .builtin .append, args := #[s, x], argTypes := #[22, 22] })
    (B : Nat) (v : Value) (l0 l : List Int) (hs : a.eval s = v) (hown : OwnT B w v l0) (A : Option Addr) (m c : Nat) (hx : a.eval x = .slice A m c) (hb : TimesAt w A l) (hm : l.length = m) (hlen : l0.length + l.length ≤ 17592186044416) (hbase : B ≤ w.heap.size)
    (h : ∀ v' w', OwnT B w' v' (l0 ++ l) → w.grownBy w' v.ownBlock → (v'.ownBlock = v.ownBlock ∨ v'.ownBlock = some w.heap.size) → wpList Try.prog ops Q rest (a.put o.dst v') w') : wpList Try.prog ops Q (o :: rest) a w :=
  wpList_plain hgd fun _ hK => by
    obtain ⟨v', w', hrun, h2, h3, h4⟩ := run_appendT B w o.type v l0 l hown A m c hb hm hlen hbase
    unfold Oper.wp execOp
    simp only [ho, resolve, invoke, builtin, Sem.run_bind, Sem.run_pure, Result.andThen_ok, List.map_toArray, List.map_cons, List.map_nil, hs, hx, hrun]
    exact hK _ _ (h v' w' h2 h3 h4)
/-- The element that append lays down first. -/
theorem one_atT (w : World) (x : Int) (hx : I64 x) (u : Value) (hu : u = .int .i64 x) : TimesAt (w.alloc (.cells #[u] 2)) (some ⟨w.heap.size, 0, none⟩) [x] := by
  subst hu
  refine ⟨IsT.one hx, by simp, fun _ => ⟨w.heap.size, 0, rfl, by simp, fun j hj => ?_⟩⟩
  obtain rfl : j = 0 := by simpa using hj
  rw [World.cell?_alloc_at _ _ _ _ rfl]; rfl
theorem new_atT (w : World) (l : List Int) (hl : IsT l) (hm : l.length ≤ 9223372036854775807) (cs : Array Value) (hc : cs = (t8s l).toArray) : TimesAt (w.alloc (.cells cs 2)) (some ⟨w.heap.size, 0, none⟩) l := by
  subst hc
  refine ⟨hl, hm, fun _ => ⟨w.heap.size, 0, rfl, by simp, fun j hj => ?_⟩⟩
  rw [Nat.zero_add, cell_of_row _ w.heap.size j _ _ _ (heap_alloc_new w _), getDT hj]
  simp [t8s, hj]
/-- A row that the call owns, and what it grew to: nothing older changed. -/
theorem below_grownT {W w w' : World} {v : Value} {l : List Int} {B : Nat} (h : Below W.heap.size W w) (hB : W.heap.size ≤ B) (hown : OwnT B w v l) (hg : w.grownBy w' v.ownBlock) : Below W.heap.size W w' :=
  h.grown hg h.size (fun k hk => by
    obtain ⟨h1, h2⟩ := hown.1.lt k hk
    omega)
theorem OwnT.upd {B b : Nat} {w w' : World} {v : Value} {l : List Int} (h : OwnT B w v l) (u : Upd b w w') (hb : b < B) : OwnT B w' v l := by
  refine ⟨?_, h.2⟩
  obtain ⟨h1, h2 | ⟨g, cap, cur, hv, hg, hh, r⟩⟩ := h.1
  · exact ⟨h1, Or.inl h2⟩
  · exact ⟨h1, Or.inr ⟨g, cap, cur, hv, hg, by rw [u.2.2.2.2 g (Array.getElem?_eq_some_iff.1 hh).1 (by omega)]; exact hh, r⟩⟩
theorem TimesAt.upd {b : Nat} {w w' : World} {A : Option Addr} {l : List Int} (h : TimesAt w A l) (u : Upd b w w') (hb : ∀ g off, A = some ⟨g, off, none⟩ → g ≠ b) : TimesAt w' A l :=
  h.keep u.2.2.2.1 fun g off hA hg => u.2.2.2.2 g hg (hb g off hA)
theorem run_mkT (n m : Nat) (hnm : n ≤ m) (hm : m ≤ 35184372088832) (w : World) : (Instr.makeSlice 22 (.int .i64 (n : Int)) (.int .i64 (m : Int))).run Try.prog w = .ok (.slice (some ⟨w.heap.size, 0, none⟩) n m) (w.alloc (.cells (t8s (List.replicate m 0)).toArray 2)) := by
  obtain ⟨i0, hi0, hz0, hz1, hz2⟩ := info_parts info_t64
  have := run_make (P := Try.prog) w 22 2 i0 (.int .i64 0) Try.underlying22 hi0 hz0 .i64 .i64 (n : Int) (m : Int) (by omega) (by omega) (by rw [hz2]; omega) (by omega)
  rw [this, hz1, Int.toNat_natCast, Int.toNat_natCast]
  have e : madeCells (Value.int .i64 0).cells (m * 1) = (t8s (List.replicate m 0)).toArray := by
    rw [← madeT m]
  rw [e]
theorem idxT (b off N cap j : Nat) (h : j < N) (w : World) : (Instr.indexAt 22 (.slice (some ⟨b, off, none⟩) N cap) (.int .i64 (j : Int))).run Try.prog w = .ok (.pointer (some ⟨b, off + j, none⟩)) w := by
  have hz := Try.sizeOf2
  have he : Try.prog.elem 22 = 2 := by kernel_rfl
  have hr := run_indexAt_slice (P := Try.prog) (w := w) 22 ⟨b, off, none⟩ N cap .i64 (j : Int) (by kernel_rfl)
  rw [hr, if_pos ⟨by omega, by omega⟩, he, hz]
  simp [Result.andThen, add_at]
theorem own_times {w : World} {A : Option Addr} {c cap B : Nat} {l : List Int} (h : OwnT B w (.slice A c cap) l) : TimesAt w A l := by
  obtain ⟨A', cap', he, _, _, hw⟩ := h.at_
  cases he
  exact hw
theorem own_t {B g m : Nat} {w : World} {L : List Int} (hB : B ≤ g) (h : Blk w g 2 (t8s L).toArray) (hL : L.length = m) (hm : m ≤ 1048576) (hq : IsT L) : OwnT B w (.slice (some ⟨g, 0, none⟩) m m) L :=
  own_ofT (m := []) hB (by rw [List.append_nil]; exact h) hL (by simp) (by omega) hq
/-- The difference between the element at i and the next one. -/
def dfT (l : List Int) (i : Nat) : Nat := (l.getD (i + 1) 0 - l.getD i 0).natAbs
def codK (l : List Int) (i : Nat) : Nat := if i = 0 then dfT l 0 - 1 else zig (wrap64 ((dfT l i : Int) - (dfT l (i - 1) : Int)))
def codL (l : List Int) : List Nat := (List.range (l.length - 1)).map (codK l)
def incB (l : List Int) : Bool := decide (∀ i, i < l.length - 1 → l.getD i 0 < l.getD (i + 1) 0)
def nxd (i c d : Nat) : Nat := if i = 0 then (c + 1) % 18446744073709551616 else (((d : Int) + zag c) % 18446744073709551616).toNat
def tml : List Nat → Nat → Int → Nat → List Int → Option (List Int)
  | [], _, _, _, acc => some acc
  | c :: cs, i, t, d, acc => if nxd i c d = 0 ∨ (9223372036854775807 : Int) - t < (nxd i c d : Int) then none else tml cs (i + 1) (t + (nxd i c d : Int)) (nxd i c d) (acc ++ [t + (nxd i c d : Int)])
def tmL (f : Int) (cs : List Nat) : Option (List Int) := tml cs 0 f 0 [f]
def enT (l : List Int) : List Nat × Nat := if 65536 < l.length then ([], 3) else if incB l = true then enN (codL l) else ([], 7)
def fin (r : List Nat × Int × Int) (o : Option (List Int)) : List Int × Int × Int := if r.2.2 = 0 then (match o with | none => ([], 0, 7) | some l => (l, r.2.1, 0)) else ([], 0, r.2.2)
def deT (b : List Nat) (a f n : Int) : List Int × Int × Int :=
  if a < 0 ∨ (b.length : Int) < a ∨ n < 1 ∨ 65536 < n then ([], 0, 2) else fin (deN b a (n - 1)) (tmL f (deN b a (n - 1)).1)
theorem incB_iff {l : List Int} : incB l = true ↔ ∀ i, i + 1 < l.length → l.getD i 0 < l.getD (i + 1) 0 := by
  unfold incB
  rw [decide_eq_true_iff]
  exact ⟨fun h i hi => h i (by omega), fun h i hi => h i (by omega)⟩
theorem codL_len (l : List Int) : (codL l).length = l.length - 1 := by simp [codL]
theorem codL_get (l : List Int) {i : Nat} (h : i < l.length - 1) : (codL l).getD i 0 = codK l i := by
  simp [codL, List.getD_eq_getElem?_getD, h]
theorem dfT_lt {l : List Int} (h : IsT l) (i : Nat) : dfT l i < 18446744073709551616 := by
  have h1 := h.get i; have h2 := h.get (i + 1)
  unfold I64 at h1 h2; unfold dfT; omega
theorem wrap64_64 (x : Int) : -9223372036854775808 ≤ wrap64 x ∧ wrap64 x ≤ 9223372036854775807 := by simp only [wrap64]; omega
theorem codK_lt {l : List Int} (h : IsT l) (i : Nat) : codK l i < 18446744073709551616 := by
  unfold codK
  split
  · have := dfT_lt h 0; omega
  · have := wrap64_64 ((dfT l i : Int) - (dfT l (i - 1) : Int))
    exact zig_lt this.1 this.2
theorem codL_q {l : List Int} (h : IsT l) : IsQ (codL l) := by
  intro x hx
  simp only [codL, List.mem_map] at hx
  obtain ⟨i, _, rfl⟩ := hx
  exact codK_lt h i
theorem dfT_app {l : List Int} (m : List Int) {i : Nat} (h : i + 1 < l.length) : dfT (l ++ m) i = dfT l i := by
  unfold dfT
  simp only [List.getD_eq_getElem?_getD, List.getElem?_append_left h, List.getElem?_append_left (show i < l.length by omega)]
theorem getD_appL {l : List Int} (m : List Int) {i : Nat} (h : i < l.length) : (l ++ m).getD i 0 = l.getD i 0 := by
  simp only [List.getD_eq_getElem?_getD, List.getElem?_append_left h]
theorem getD_end (l : List Int) (x : Int) : (l ++ [x]).getD l.length 0 = x := by simp [List.getD_eq_getElem?_getD]
theorem incB_snoc {l : List Int} {i : Nat} (h : incB l = true) (hl : l.length = i + 1) {x : Int} (hx : l.getD i 0 < x) : incB (l ++ [x]) = true := by
  rw [incB_iff] at h ⊢
  intro j hj
  rw [List.length_append, List.length_singleton] at hj
  rw [getD_appL [x] (by omega)]
  by_cases hji : j = i
  · subst hji
    have := getD_end l x
    rw [hl] at this
    rw [this]; exact hx
  · rw [getD_appL [x] (by omega)]
    exact h j (by omega)
/-- What is read: strictly increasing, of the right length, and its codes are those that were read. -/
theorem tml_ok : ∀ {cs : List Nat} {i : Nat} {t : Int} {d : Nat} {acc l : List Int}, IsQ cs → IsT acc → incB acc = true → acc.length = i + 1 → acc.getD i 0 = t → (0 < i → d = dfT acc (i - 1)) → tml cs i t d acc = some l →
    IsT l ∧ incB l = true ∧ l.length = i + 1 + cs.length ∧ (∃ r, l = acc ++ r) ∧ ∀ k, k < cs.length → codK l (i + k) = cs.getD k 0
  | [], i, t, d, acc, l, hq, ht, hi, hl, hg, hd, h => by
    simp only [tml, Option.some.injEq] at h
    subst h
    exact ⟨ht, hi, by simpa using hl, ⟨[], by simp⟩, fun k hk => by simp at hk⟩
  | c :: cs, i, t, d, acc, l, hq, ht, hi, hl, hg, hd, h => by
    rw [tml] at h
    obtain ⟨e, he⟩ : ∃ e, nxd i c d = e := ⟨_, rfl⟩
    rw [he] at h
    split at h
    · cases h
    rename_i hne
    have hti : I64 t := by rw [← hg]; exact ht.get i
    have hc : c < 18446744073709551616 := hq c (List.mem_cons_self ..)
    have hti2 := hti
    unfold I64 at hti2
    have hx : I64 (t + (e : Int)) := ⟨by omega, by omega⟩
    have h1 : (acc ++ [t + (e : Int)]).getD (i + 1) 0 = t + (e : Int) := by have := getD_end acc (t + (e : Int)); rwa [hl] at this
    have h2 : dfT (acc ++ [t + (e : Int)]) i = e := by
      unfold dfT
      rw [h1, getD_appL _ (by omega), hg]; omega
    obtain ⟨k1, k2, k3, ⟨r, k4⟩, k5⟩ := tml_ok (fun y hy => hq y (List.mem_cons_of_mem _ hy)) (ht.app (IsT.one hx)) (incB_snoc hi hl (by rw [hg]; omega)) (by rw [List.length_append, hl]; rfl) h1 (fun _ => by rw [Nat.add_sub_cancel]; exact h2.symm) h
    refine ⟨k1, k2, by rw [k3, List.length_cons]; omega, ⟨[t + (e : Int)] ++ r, by rw [k4, List.append_assoc]⟩, fun k hk => ?_⟩
    cases k with
    | succ k =>
      have := k5 k (by simpa using hk)
      rw [show i + (k + 1) = i + 1 + k by omega, this]
      simp [List.getD_eq_getElem?_getD]
    | zero =>
      have h3 : dfT l i = e := by rw [k4, dfT_app r (by rw [List.length_append, List.length_singleton]; omega)]; exact h2
      rw [Nat.add_zero]
      show _ = c
      unfold codK
      unfold nxd at he
      by_cases hi0 : i = 0
      · subst hi0
        rw [if_pos rfl, h3]
        rw [if_pos rfl] at he
        omega
      · have h4 : dfT l (i - 1) = d := by
          rw [hd (by omega), k4, dfT_app r (by rw [List.length_append, List.length_singleton]; omega), dfT_app _ (by omega)]
        rw [if_neg hi0, h3, h4]
        rw [if_neg hi0] at he
        have hz : -9223372036854775808 ≤ zag c ∧ zag c ≤ 9223372036854775807 := by unfold zag; split <;> omega
        have : wrap64 ((e : Int) - (d : Int)) = zag c := by
          obtain ⟨z, hzz⟩ : ∃ z, zag c = z := ⟨_, rfl⟩
          rw [hzz] at he hz ⊢
          simp only [wrap64]; omega
        rw [this, zig_zag]
theorem tmL_ok {f : Int} {cs : List Nat} {l : List Int} (hf : I64 f) (hq : IsQ cs) (h : tmL f cs = some l) : IsT l ∧ incB l = true ∧ l.length = cs.length + 1 ∧ l.getD 0 0 = f ∧ codL l = cs := by
  obtain ⟨h1, h2, h3, ⟨r, h4⟩, h5⟩ := tml_ok (i := 0) (t := f) (d := 0) (acc := [f]) hq (IsT.one hf) (by simp [incB]) rfl rfl (fun h => absurd h (by omega)) h
  refine ⟨h1, h2, by omega, by rw [h4]; rfl, ?_⟩
  apply List.ext_getElem
  · rw [codL_len]; omega
  · intro k hk1 hk2
    have := h5 k hk2
    rw [Nat.zero_add] at this
    rw [getD_lt hk2] at this
    rw [← this]
    simp [codL]
/-- What is encoded is read. -/
theorem tml_enc {l : List Int} (ht : IsT l) (hi : incB l = true) : ∀ (m i : Nat), i + 1 + m = l.length → ∀ d, (0 < i → d = dfT l (i - 1)) → tml ((codL l).drop i) i (l.getD i 0) d (l.take (i + 1)) = some l
  | 0, i, hm, d, hd => by
    rw [List.drop_of_length_le (by rw [codL_len]; omega), List.take_of_length_le (by omega)]
    rfl
  | m + 1, i, hm, d, hd => by
    have hk : i < (codL l).length := by rw [codL_len]; omega
    have hinc := incB_iff.1 hi i (by omega)
    have hd1 := dfT_lt ht i
    have e : nxd i (codK l i) d = dfT l i := by
      unfold nxd codK
      by_cases hi0 : i = 0
      · subst hi0
        rw [if_pos rfl, if_pos rfl]
        have : 1 ≤ dfT l 0 := by unfold dfT; omega
        omega
      · rw [if_neg hi0, if_neg hi0, zag_zig, ← hd (by omega)]
        have hd2 : d < 18446744073709551616 := by rw [hd (by omega)]; exact dfT_lt ht _
        simp only [wrap64]; omega
    have hx := ht.get (i + 1)
    have hx0 := ht.get i
    unfold I64 at hx hx0
    have e2 : l.getD i 0 + (dfT l i : Int) = l.getD (i + 1) 0 := by unfold dfT; omega
    have e3 : 1 ≤ dfT l i := by unfold dfT; omega
    have hg : (codL l)[i] = codK l i := by rw [← getD_lt hk, codL_get l (by rw [codL_len] at hk; exact hk)]
    rw [List.drop_eq_getElem_cons hk, tml, hg, e, if_neg (by omega), e2]
    have := tml_enc ht hi m (i + 1) (by omega) (dfT l i) (fun _ => rfl)
    rw [takeT_succ (show i + 1 < l.length by omega)] at this
    exact this
theorem tmL_enc {l : List Int} (ht : IsT l) (hi : incB l = true) (h0 : 1 ≤ l.length) : tmL (l.getD 0 0) (codL l) = some l := by
  have := tml_enc ht hi (l.length - 1) 0 (by omega) 0 (fun h => absurd h (by omega))
  unfold tmL
  rw [takeT_succ (by omega)] at this
  simpa using this
theorem enT_of {l : List Int} (h1 : l.length ≤ 65536) (h2 : incB l = true) : enT l = enN (codL l) := by
  unfold enT; rw [if_neg (by omega), if_pos h2]
/-- What is encoded is read back. -/
theorem deT_enc (l : List Int) (pre post : List Nat) (ht : IsT l) (hi : incB l = true) (h0 : 1 ≤ l.length) (h1 : l.length ≤ 65536) :
    deT (pre ++ (enT l).1 ++ post) pre.length (l.getD 0 0) l.length = (l, (pre.length : Int) + ((enT l).1.length : Int), 0) := by
  rw [enT_of h1 hi]
  have hc := codL_len l
  have := deN_enc (codL l) pre post (codL_q ht) (by omega)
  rw [hc, show ((l.length - 1 : Nat) : Int) = (l.length : Int) - 1 by omega] at this
  unfold deT
  rw [this, if_neg (by rw [List.length_append, List.length_append]; omega)]
  unfold fin
  rw [if_pos rfl]
  simp only [tmL_enc ht hi h0]
/-- What is read is encoded to the bytes from which it was read. -/
theorem deT_canon {b : List Nat} {l : List Int} {a f n nx : Int} (hf : I64 f) (h : deT b a f n = (l, nx, 0)) :
    IsT l ∧ incB l = true ∧ (l.length : Int) = n ∧ l.length ≤ 65536 ∧ 1 ≤ l.length ∧ l.getD 0 0 = f ∧ 0 ≤ a ∧ a < nx ∧ nx ≤ b.length ∧ (enT l).1 = (b.drop a.toNat).take (nx.toNat - a.toNat) ∧ (enT l).2 = 0 := by
  unfold deT at h
  split at h
  · simp at h
  rename_i hr
  obtain ⟨L, x, e, hR⟩ : ∃ L x e, deN b a (n - 1) = (L, x, e) := ⟨_, _, _, rfl⟩
  rw [hR] at h
  unfold fin at h
  simp only at h
  by_cases he : e = 0
  · subst he
    rw [if_pos rfl] at h
    obtain ⟨hq, h1, h2, h3, h4, h5, h6⟩ := deN_canon hR
    cases ho : tmL f L with
    | none => rw [ho] at h; simp at h
    | some l' =>
      rw [ho] at h
      simp only [Prod.mk.injEq, and_true] at h
      obtain ⟨rfl, rfl⟩ := h
      obtain ⟨k1, k2, k3, k4, k5⟩ := tmL_ok hf hq ho
      have hen := enT_of (l := l') (by omega) k2
      rw [k5] at hen
      refine ⟨k1, k2, by omega, by omega, by omega, k4, h3, h4, h5, ?_, ?_⟩
      · rw [hen]; exact h6
      · rw [hen]; exact enN_ok h2
  · rw [if_neg he] at h
    simp only [Prod.mk.injEq] at h
    exact absurd h.2.2 he
theorem deT_len {b : List Nat} {a f n : Int} {l : List Int} {nx e : Int} (hf : I64 f) (h : deT b a f n = (l, nx, e)) : e = 0 ∨ (l = [] ∧ nx = 0) := by
  by_cases he : e = 0
  · exact Or.inl he
  · right
    unfold deT at h
    split at h
    · simp only [Prod.mk.injEq] at h; exact ⟨h.1.symm, h.2.1.symm⟩
    unfold fin at h
    split at h
    · split at h
      · simp only [Prod.mk.injEq] at h; exact ⟨h.1.symm, h.2.1.symm⟩
      · simp only [Prod.mk.injEq] at h; exact absurd h.2.2.symm he
    · simp only [Prod.mk.injEq] at h; exact ⟨h.1.symm, h.2.1.symm⟩
theorem rb1T {k : IntKind} {a a' : Int} (h1 : a = a') : Ending.returned (Value.int k a) = .returned (.int k a') := by rw [h1]
theorem dst_mod {a b : Int} (ha : I64 a) (hb : I64 b) (h : b ≤ a) : IntKind.u64.wrap (IntKind.u64.wrap a - IntKind.u64.wrap b) = (((a - b).natAbs : Nat) : Int) := by
  unfold I64 at ha hb
  have w : ∀ n : Int, IntKind.u64.wrap n = n % 18446744073709551616 := fun n => by simp [IntKind.wrap, IntKind.bits, IntKind.signed]
  rw [w, w, w]; omega
theorem p_diff (a b : Int) (w : World) (ha : I64 a) (hb : I64 b) (h : b ≤ a) : Calls Try.prog 56 #[.int .i64 a, .int .i64 b] w (RetSame (.int .u64 ((a - b).natAbs : Nat)) w) := by
  have e := hide (dst_mod ha hb h)
  obtain ⟨a1, a2⟩ := ha
  obtain ⟨b1, b2⟩ := hb
  go_enter Try.func56, Try.ntmps56
  go_wp2
  all_goals (first | go_ret | (exfalso; simp_all; done))
  all_goals exact ⟨rb1T e.out, rfl⟩
theorem p_dist (a b : Int) (w : World) (ha : I64 a) (hb : I64 b) : Calls Try.prog 38 #[.int .i64 a, .int .i64 b] w (RetSame (.int .u64 ((a - b).natAbs : Nat)) w) := by
  by_cases h : a < b
  · have K := hide (fun w => p_diff b a w hb ha (by omega))
    have hd : decide (a < b) = true := decide_eq_true h
    rw [show (b - a).natAbs = (a - b).natAbs by omega] at K
    clear ha hb
    go_enter Try.func38, Try.ntmps38
    go_wp2_with (go_at_call 56; (with_reducible refine (K.out _).mono ?_); rintro e w3 ⟨rfl, rfl⟩)
    go_ret
    exact ⟨rfl, rfl⟩
  · have K := hide (fun w => p_diff a b w ha hb (by omega))
    have hd : decide (a < b) = false := decide_eq_false h
    clear ha hb
    go_enter Try.func38, Try.ntmps38
    go_wp2_with (go_at_call 56; (with_reducible refine (K.out _).mono ?_); rintro e w3 ⟨rfl, rfl⟩)
    go_ret
    exact ⟨rfl, rfl⟩
theorem r_dist (a b : Int) (w : World) (ha : I64 a) (hb : I64 b) : Calls Try.prog 27 #[.int .i64 a, .int .i64 b] w (RetSame (.int .u64 ((a - b).natAbs : Nat)) w) := by
  by_cases h : a < b
  · have e := hide (dst_mod hb ha (by omega))
    rw [show (b - a).natAbs = (a - b).natAbs by omega] at e
    obtain ⟨a1, a2⟩ := ha
    obtain ⟨b1, b2⟩ := hb
    have hd : decide (a < b) = true := decide_eq_true h
    go_enter Try.func27, Try.ntmps27
    go_wp2_with fail
    go_ret
    exact ⟨rb1T e.out, rfl⟩
  · have e := hide (dst_mod ha hb (by omega))
    obtain ⟨a1, a2⟩ := ha
    obtain ⟨b1, b2⟩ := hb
    have hd : decide (a < b) = false := decide_eq_false h
    go_enter Try.func27, Try.ntmps27
    go_wp2_with fail
    go_ret
    exact ⟨rb1T e.out, rfl⟩
theorem p_apply (a : Int) (d : Nat) (w : World) (ha : I64 a) (hd : a + (d : Int) ≤ 9223372036854775807) (hd2 : d < 18446744073709551616) : Calls Try.prog 50 #[.int .i64 a, .int .u64 (d : Int)] w (RetSame (.int .i64 (a + (d : Int))) w) := by
  obtain ⟨a1, a2⟩ := ha
  have e : wrap64 (IntKind.u64.wrap (IntKind.u64.wrap a + (d : Int))) = a + (d : Int) := by
    have w : ∀ n : Int, IntKind.u64.wrap n = n % 18446744073709551616 := fun n => by simp [IntKind.wrap, IntKind.bits, IntKind.signed]
    rw [w, w]; simp only [wrap64]; omega
  have e := hide e
  go_enter Try.func50, Try.ntmps50
  go_wp2
  all_goals (first | go_ret | (exfalso; simp_all; done))
  all_goals exact ⟨rb1T e.out, rfl⟩
theorem r_apply (a : Int) (d : Nat) (w : World) (ha : I64 a) (hd : a + (d : Int) ≤ 9223372036854775807) (hd2 : d < 18446744073709551616) : Calls Try.prog 46 #[.int .i64 a, .int .u64 (d : Int)] w (RetSame (.int .i64 (a + (d : Int))) w) := by
  obtain ⟨a1, a2⟩ := ha
  have e : wrap64 (IntKind.u64.wrap (IntKind.u64.wrap a + (d : Int))) = a + (d : Int) := by
    have w : ∀ n : Int, IntKind.u64.wrap n = n % 18446744073709551616 := fun n => by simp [IntKind.wrap, IntKind.bits, IntKind.signed]
    rw [w, w]; simp only [wrap64]; omega
  have e := hide e
  go_enter Try.func46, Try.ntmps46
  go_wp2
  all_goals (first | go_ret | (exfalso; simp_all; done))
  all_goals exact ⟨rb1T e.out, rfl⟩
set_option maxHeartbeats 800000 in
set_option maxRecDepth 100000 in
theorem p_inc (A : Option Addr) (n c : Nat) (l : List Int) (W : World) (hl : TimesAt W A l) (hn : l.length = n) (v : Bool) (hv : incB l = v) :
    Calls Try.prog 14 #[.slice A n c] W (Ret (.bool v) W) := by
  have hlen := hl.2.1
  rw [hn] at hlen
  have HL := hide hl
  have Hn := hide hn
  have Hv := hide hv
  clear hl hn hv
  go_enter Try.func14, Try.ntmps14
  go_wp2_with fail
  go_loopw [3] (fun i wr => ∃ m : Nat, (m = 0 ∨ m < n) ∧ i = .int .i64 ((m : Int) + 1) ∧ Hid (Ext W wr) ∧ Hid (∀ j, j < m → l.getD j 0 < l.getD (j + 1) 0)) (fun i _ => n - (intOf i).toNat)
  case atStart => exact ⟨0, Or.inl rfl, rfl, hide (Ext.refl _), hide (by omega)⟩
  case round =>
    obtain ⟨m, hm, rfl, E, T⟩ := hrel
    by_cases hlt : m + 1 < n
    · have hkl : m + 1 < l.length := by rw [Hn.out]; exact hlt
      obtain ⟨b, off, rfl, hb1, hc1⟩ := (HL.out.ext E.out).2.2 (by omega)
      have d1 := hc1 m (by omega)
      have d2 := hc1 (m + 1) hkl
      have ix1 : ∀ w, (Instr.indexAt 22 (.slice (some ⟨b, off, none⟩) n c) (.int .i64 ((m : Int) + 1))).run Try.prog w = .ok (.pointer (some ⟨b, off + (m + 1), none⟩)) w := fun w => idxT b off n c (m + 1) hlt w
      have ix2 := fun w => idxT b off n c m (by omega) w
      have hs : Hid (l.getD m 0 < l.getD (m + 1) 0 → ∀ j, j < m + 1 → l.getD j 0 < l.getD (j + 1) 0) := hide (fun h j hj => by
        by_cases e : j = m
        · subst e; exact h
        · exact T.out j (by omega))
      have hne : Hid (¬ l.getD m 0 < l.getD (m + 1) 0 → incB l = false) := hide (fun h => by
        rw [Bool.eq_false_iff, ne_eq, incB_iff]
        exact fun q => h (q m hkl))
      obtain ⟨x, hx⟩ : ∃ x, l.getD m 0 = x := ⟨_, rfl⟩
      obtain ⟨y, hy⟩ : ∃ y, l.getD (m + 1) 0 = y := ⟨_, rfl⟩
      rw [hx] at d1 hs hne
      rw [hy] at d2 hs hne
      have d3 : decide ((m : Int) + 1 < (n : Int)) = true := decide_eq_true (by omega)
      clear hc1 hx hy hkl hb1
      by_cases hxy : x < y
      · have q : decide (y ≤ x) = false := decide_eq_false (by omega)
        have Hxy := hide hxy
        clear hxy
        go_wp2_with fail
        go_quiet (fail)
        go_wp2_with fail
        go_roundw
        case rel => exact ⟨m + 1, Or.inr hlt, by go_num, hide (E.out.trans (ext_drewN _ _)), hide (hs.out Hxy.out)⟩
        case measure => simp [intOf]; omega
      · have q : decide (y ≤ x) = true := decide_eq_true (by omega)
        have Hr := hide (hne.out hxy)
        go_wp2_with fail
        go_quiet (fail)
        go_wp2_with fail
        go_ret
        refine ⟨?_, E.out.trans (ext_drewN _ _)⟩
        rw [← Hv.out, Hr.out]
        rfl
    · have d3 : decide ((m : Int) + 1 < (n : Int)) = false := decide_eq_false (by omega)
      go_wp2_with fail
      go_ret
      refine ⟨?_, E.out⟩
      have e : incB l = true := incB_iff.2 fun j hj => T.out j (by have := Hn.out; omega)
      rw [← Hv.out, e]
      rfl
set_option maxHeartbeats 800000 in
set_option maxRecDepth 100000 in
theorem r_inc (A : Option Addr) (n c : Nat) (l : List Int) (W : World) (hl : TimesAt W A l) (hn : l.length = n) (v : Bool) (hv : incB l = v) :
    Calls Try.prog 15 #[.slice A n c] W (Ret (.bool v) W) := by
  have hlen := hl.2.1
  rw [hn] at hlen
  have HL := hide hl
  have Hn := hide hn
  have Hv := hide hv
  clear hl hn hv
  go_enter Try.func15, Try.ntmps15
  go_wp2_with fail
  go_loopw [3] (fun i wr => ∃ m : Nat, (m = 0 ∨ m < n) ∧ i = .int .i64 ((m : Int) + 1) ∧ Hid (Ext W wr) ∧ Hid (∀ j, j < m → l.getD j 0 < l.getD (j + 1) 0)) (fun i _ => n - (intOf i).toNat)
  case atStart => exact ⟨0, Or.inl rfl, rfl, hide (Ext.refl _), hide (by omega)⟩
  case round =>
    obtain ⟨m, hm, rfl, E, T⟩ := hrel
    by_cases hlt : m + 1 < n
    · have hkl : m + 1 < l.length := by rw [Hn.out]; exact hlt
      obtain ⟨b, off, rfl, hb1, hc1⟩ := (HL.out.ext E.out).2.2 (by omega)
      have d1 := hc1 m (by omega)
      have d2 := hc1 (m + 1) hkl
      have ix1 : ∀ w, (Instr.indexAt 22 (.slice (some ⟨b, off, none⟩) n c) (.int .i64 ((m : Int) + 1))).run Try.prog w = .ok (.pointer (some ⟨b, off + (m + 1), none⟩)) w := fun w => idxT b off n c (m + 1) hlt w
      have ix2 := fun w => idxT b off n c m (by omega) w
      have hs : Hid (l.getD m 0 < l.getD (m + 1) 0 → ∀ j, j < m + 1 → l.getD j 0 < l.getD (j + 1) 0) := hide (fun h j hj => by
        by_cases e : j = m
        · subst e; exact h
        · exact T.out j (by omega))
      have hne : Hid (¬ l.getD m 0 < l.getD (m + 1) 0 → incB l = false) := hide (fun h => by
        rw [Bool.eq_false_iff, ne_eq, incB_iff]
        exact fun q => h (q m hkl))
      obtain ⟨x, hx⟩ : ∃ x, l.getD m 0 = x := ⟨_, rfl⟩
      obtain ⟨y, hy⟩ : ∃ y, l.getD (m + 1) 0 = y := ⟨_, rfl⟩
      rw [hx] at d1 hs hne
      rw [hy] at d2 hs hne
      have d3 : decide ((m : Int) + 1 < (n : Int)) = true := decide_eq_true (by omega)
      clear hc1 hx hy hkl hb1
      by_cases hxy : x < y
      · have q : decide (y ≤ x) = false := decide_eq_false (by omega)
        have Hxy := hide hxy
        clear hxy
        go_wp2_with fail
        go_quiet (fail)
        go_wp2_with fail
        go_roundw
        case rel => exact ⟨m + 1, Or.inr hlt, by go_num, hide (E.out.trans (ext_drewN _ _)), hide (hs.out Hxy.out)⟩
        case measure => simp [intOf]; omega
      · have q : decide (y ≤ x) = true := decide_eq_true (by omega)
        have Hr := hide (hne.out hxy)
        go_wp2_with fail
        go_quiet (fail)
        go_wp2_with fail
        go_ret
        refine ⟨?_, E.out.trans (ext_drewN _ _)⟩
        rw [← Hv.out, Hr.out]
        rfl
    · have d3 : decide ((m : Int) + 1 < (n : Int)) = false := decide_eq_false (by omega)
      go_wp2_with fail
      go_ret
      refine ⟨?_, E.out⟩
      have e : incB l = true := incB_iff.2 fun j hj => T.out j (by have := Hn.out; omega)
      rw [← Hv.out, e]
      rfl
end Go.Proofs.Ytjmigglibidbdaa
