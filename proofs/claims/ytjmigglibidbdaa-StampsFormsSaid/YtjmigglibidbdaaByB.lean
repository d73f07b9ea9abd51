/- Appending bytes to what the call owns; comparing bytes. Conditions: the slices read as bytes; together at most 2^47 of them. -/
import Derived.Test.YtjmigglibidbdaaByA
namespace Go.Proofs.Ytjmigglibidbdaa
set_option linter.unusedVariables false
set_option linter.unusedSimpArgs false
open Go Go.RowKit
theorem add_at (b off j : Nat) : (⟨b, off, none⟩ : Addr).add j = ⟨b, off + j, none⟩ := by unfold Addr.add; split <;> simp_all
theorem run_append8 (B : Nat) (w : World) (ty : TypeId) (v : Value) (l0 l : List Nat) (hown : OwnB B w v l0) (A : Option Addr) (m c : Nat) (hb : BytesAt w A l) (hm : l.length = m) (hlen : l0.length + l.length ≤ 140737488355328) (hbase : B ≤ w.heap.size) :
    ∃ v' w', (Builtin.append_ #[29, 29] ty #[v, .slice A m c]).run Try.prog w = .ok v' w' ∧ OwnB B w' v' (l0 ++ l) ∧ w.grownBy w' v.ownBlock ∧ (v'.ownBlock = v.ownBlock ∨ v'.ownBlock = some w.heap.size) := by
  subst hm
  obtain ⟨i0, hi0, hz0, hz1, hz2⟩ := info_parts info_u8
  have h63 : l0.length + l.length ≤ maxLen := by unfold maxLen; omega
  rcases A with _ | ad
  · have h0 : l = [] := by
      rcases Nat.eq_zero_or_pos l.length with h | h
      · exact List.length_eq_zero_iff.1 h
      · obtain ⟨b, off, h', _⟩ := hb.2.2 h
        cases h'
    subst h0
    refine ⟨v, w, ?_, by rw [List.append_nil]; exact hown, World.grownBy.refl w _, .inl rfl⟩
    rcases hown.1.2 with ⟨rfl, _⟩ | ⟨g, cap, cur, rfl, _, _, hnc, _⟩
    · simp [Builtin.append_, run_underlying Try.underlying29, sizeOf, typeInfo, hi0, Builtin.lenOf, Builtin.firstCells]
    · simp [Builtin.append_, run_underlying Try.underlying29, sizeOf, typeInfo, hi0, Builtin.lenOf, Builtin.firstCells, hnc, storeCells]
  · have hcells : ∀ j u, (u8s l)[j]? = some u → w.cell? (ad.add j) = some u := by
      intro j u hu
      have hj : j < l.length := by
        rcases Nat.lt_or_ge j (u8s l).length with h | h
        · rwa [u8s_len] at h
        · rw [List.getElem?_eq_none h] at hu; cases hu
      obtain ⟨b, off, h', _, hc⟩ := hb.2.2 (by omega)
      obtain rfl : ad = ⟨b, off, none⟩ := Option.some.inj h'
      rw [add_at, hc j hj, ← hu, getD_lt hj]
      simp [u8s, hj]
    obtain ⟨v', w', hrun, h2, h3, _, h5⟩ := run_append_own_at (P := Try.prog) w B 29 ty 5 i0 _ 1 1 Try.underlying29 hi0 hz0 hz1 hz2 rfl (by omega) v l0.length (u8s l0) hown.1 ad l.length c (u8s l) (by rw [u8s_len]; omega) hcells (u8s_one l) h63 (by omega) hbase
    refine ⟨v', w', hrun, ⟨?_, hown.2.app hb.1⟩, h3, h5⟩
    rw [u8s_app, List.length_append]
    exact h2
theorem wl_append8 {ops : Array Oper} {rest : List Oper} {o : Oper} {a : Act} {Q : Exit → Act → World → Prop} {w : World} (hgd : o.guard = none) (s x : Operand)
    (ho : o.op = .call { callee := .builtin .append, args := #[s, x], argTypes := #[29, 29] })
    (B : Nat) (v : Value) (l0 l : List Nat) (hs : a.eval s = v) (hown : OwnB B w v l0) (A : Option Addr) (m c : Nat) (hx : a.eval x = .slice A m c) (hb : BytesAt w A l) (hm : l.length = m) (hlen : l0.length + l.length ≤ 140737488355328) (hbase : B ≤ w.heap.size)
    (h : ∀ v' w', OwnB B w' v' (l0 ++ l) → w.grownBy w' v.ownBlock → (v'.ownBlock = v.ownBlock ∨ v'.ownBlock = some w.heap.size) → wpList Try.prog ops Q rest (a.put o.dst v') w') : wpList Try.prog ops Q (o :: rest) a w :=
  wpList_plain hgd fun _ hK => by
    obtain ⟨v', w', hrun, h2, h3, h4⟩ := run_append8 B w o.type v l0 l hown A m c hb hm hlen hbase
    unfold Oper.wp execOp
    simp only [ho, resolve, invoke, builtin, Sem.run_bind, Sem.run_pure, Result.andThen_ok, List.map_toArray, List.map_cons, List.map_nil, hs, hx, hrun]
    exact hK _ _ (h v' w' h2 h3 h4)
/-- The element that append lays down first. -/
theorem one_at (w : World) (x : Nat) (hx : x < 256) (u : Value) (hu : u = .int .u8 (x : Int)) : BytesAt (w.alloc (.cells #[u] 5)) (some ⟨w.heap.size, 0, none⟩) [x] := by
  subst hu
  refine ⟨IsB.one hx, by simp, fun _ => ⟨w.heap.size, 0, rfl, by simp, fun j hj => ?_⟩⟩
  obtain rfl : j = 0 := by simpa using hj
  rw [World.cell?_alloc_at _ _ _ _ rfl]; rfl
theorem new_at (w : World) (l : List Nat) (hl : IsB l) (hm : l.length ≤ 9223372036854775807) (cs : Array Value) (hc : cs = (u8s l).toArray) : BytesAt (w.alloc (.cells cs 5)) (some ⟨w.heap.size, 0, none⟩) l := by
  subst hc
  refine ⟨hl, hm, fun _ => ⟨w.heap.size, 0, rfl, by simp, fun j hj => ?_⟩⟩
  rw [Nat.zero_add, cell_of_row _ w.heap.size j _ _ _ (heap_alloc_new w _), getD_lt hj]
  simp [u8s, hj]
/-- A row that the call owns, and what it grew to: nothing older changed. -/
theorem below_grown {W w w' : World} {v : Value} {l : List Nat} {B : Nat} (h : Below W.heap.size W w) (hB : W.heap.size ≤ B) (hown : OwnB B w v l) (hg : w.grownBy w' v.ownBlock) : Below W.heap.size W w' :=
  h.grown hg h.size (fun k hk => by
    obtain ⟨h1, h2⟩ := hown.1.lt k hk
    omega)
theorem BytesAt.below {W w w' : World} {A : Option Addr} {l : List Nat} (h : BytesAt W A l) (e : Below W.heap.size W w) : BytesAt w A l := h.ext e
theorem run_from (A : Option Addr) (n k cap : Nat) (hk : k ≤ n) (w : World) : (Instr.slice 29 (.slice A n cap) (some (.int .i64 (k : Int))) none none).run Try.prog w = .ok (.slice (if cap = k then A else A.map (·.add (k * 1))) (n - k) (cap - k)) w := by
  have he : Try.prog.elem 29 = 5 := by kernel_rfl
  have hz := Try.sizeOf5
  rw [run_slice_l w 29 A n cap (by kernel_rfl) .i64 k (by omega) (by omega), he, hz]
  simp [Result.andThen, sliced]
theorem run_upto (A : Option Addr) (n k cap : Nat) (hk : k ≤ cap) (w : World) : (Instr.slice 29 (.slice A n cap) none (some (.int .i64 (k : Int))) none).run Try.prog w = .ok (.slice A k cap) w := by
  have he : Try.prog.elem 29 = 5 := by kernel_rfl
  have hz := Try.sizeOf5
  rw [run_slice_h w 29 A n cap (by kernel_rfl) .i64 k (by omega) (by omega), he, hz]
  simp [Result.andThen, sliced]
  intro _
  cases A <;> simp [Addr.add]
end Go.Proofs.Ytjmigglibidbdaa
