/- Appending bytes to what the call owns, near the greatest lengths; what was appended to keeps its bytes. Conditions: the slices read as bytes; a quarter more than both together is at most 2^48. -/
import Derived.Test.YtjmigglibidbdaaByB
import Derived.Deep.DeepAppendWide
namespace Go.Proofs.Ytjmigglibidbdaa
set_option linter.unusedVariables false
set_option linter.unusedSimpArgs false
open Go Go.RowKit
theorem run_append8w (B : Nat) (w : World) (ty : TypeId) (v : Value) (l0 l : List Nat) (hown : OwnB B w v l0) (A : Option Addr) (m c : Nat) (hb : BytesAt w A l) (hm : l.length = m) (hlen : l0.length + l.length ≤ 225179981368000) (hbase : B ≤ w.heap.size) :
    ∃ v' w', (Builtin.append_ #[29, 29] ty #[v, .slice A m c]).run Try.prog w = .ok v' w' ∧ OwnB B w' v' (l0 ++ l) ∧ w.grownBy w' v.ownBlock ∧ OwnB B w' v l0 := by
  subst hm
  obtain ⟨i0, hi0, hz0, hz1, hz2⟩ := info_parts info_u8
  have h63 : l0.length + l.length ≤ maxLen := by unfold maxLen; omega
  rcases A with _ | ad
  · have h0 : l = [] := by
      rcases Nat.eq_zero_or_pos l.length with h | h
      · exact List.length_eq_zero_iff.1 h
      · obtain ⟨b, off, h', _⟩ := hb.2.2 h
        cases h'
    subst h0
    refine ⟨v, w, ?_, by rw [List.append_nil]; exact hown, World.grownBy.refl w _, hown⟩
    rcases hown.1.2 with ⟨rfl, _⟩ | ⟨g, cap, cur, rfl, _, _, hnc, _⟩
    · simp [Builtin.append_, run_underlying Try.underlying29, sizeOf, typeInfo, hi0, Builtin.lenOf, Builtin.firstCells]
    · simp [Builtin.append_, run_underlying Try.underlying29, sizeOf, typeInfo, hi0, Builtin.lenOf, Builtin.firstCells, hnc, storeCells]
  · have hcells : ∀ j u, (u8s l)[j]? = some u → w.cell? (ad.add j) = some u := by
      intro j u hu
      have hj : j < l.length := by
        rcases Nat.lt_or_ge j (u8s l).length with h | h
        · rwa [u8s_len] at h
        · rw [List.getElem?_eq_none h] at hu; cases hu
      obtain ⟨b, off, h', _, hc⟩ := hb.2.2 (by omega)
      obtain rfl : ad = ⟨b, off, none⟩ := Option.some.inj h'
      rw [add_at, hc j hj, ← hu, getD_lt hj]
      simp [u8s, hj]
    have hlen8 : (u8s l).length = l.length * 1 := by rw [u8s_len]; omega
    obtain ⟨v', w', hrun, h2, h3, h4⟩ := run_append_own_wide (P := Try.prog) w B 29 ty 5 i0 _ 1 1 Try.underlying29 hi0 hz0 hz1 hz2 rfl (by omega) v l0.length (u8s l0) hown.1 ad l.length c (u8s l) hlen8 hcells (u8s_one l) h63 (by omega) hbase
    refine ⟨v', w', hrun, ⟨?_, hown.2.app hb.1⟩, h3, ?_⟩
    · rw [u8s_app, List.length_append]
      exact h2
    · refine ⟨?_, hown.2⟩
      obtain ⟨ho1, ⟨rfl, h0⟩ | ⟨g, cap, cur, rfl, hbg, hg, hnc, hcm, hcs, htake⟩⟩ := hown.1
      · exact ⟨ho1, Or.inl ⟨rfl, h0⟩⟩
      · by_cases hroom : l0.length + l.length ≤ cap
        · have hr := run_append_room (P := Try.prog) w 29 ty 5 i0 Try.underlying29 hi0 g l0.length cap cur hg ad l.length c (u8s l) (by rw [hz1]; exact hlen8) hcells (u8s_one l) hroom (by rw [hz1, u8s_len, hcs]; omega)
          rw [hr] at hrun
          injection hrun with e1 e2
          subst e2
          refine ⟨ho1, Or.inr ⟨g, cap, _, rfl, hbg, setRow_heap w g cur _ _ _ hg, hnc, hcm, ?_, ?_⟩⟩
          · simp only [List.size_toArray, List.length_append, List.length_take, List.length_drop, Array.length_toList, u8s_len, hz1]
            omega
          · rw [hz1, htake, List.append_assoc]
            exact List.take_left' (by rw [u8s_len]; omega)
        · have holds : ∀ j u, (u8s l0)[j]? = some u → w.cell? ((⟨g, 0, none⟩ : Addr).add j) = some u := hown.1.cells (g := g) rfl
          have hr := run_append_grow (P := Try.prog) w 29 ty 5 i0 _ Try.underlying29 hi0 hz0 ⟨g, 0, none⟩ l0.length cap (u8s l0) (by rw [hz1, u8s_len]; omega) holds ad l.length c (u8s l) (by rw [hz1]; exact hlen8) hcells (by omega) (by omega) (by rw [hz2]; exact growslice_fits_wide (by omega) (by omega))
          rw [hr] at hrun
          injection hrun with e1 e2
          subst e2
          refine ⟨ho1, Or.inr ⟨g, cap, cur, rfl, hbg, ?_, hnc, hcm, hcs, htake⟩⟩
          rw [← hg]
          exact Below.heap_alloc w.drew _ g (Array.getElem?_eq_some_iff.1 hg).1
theorem wl_append8w {ops : Array Oper} {rest : List Oper} {o : Oper} {a : Act} {Q : Exit → Act → World → Prop} {w : World} (hgd : o.guard = none) (s x : Operand)
    (ho : o.op = .call { callee := .builtin .append, args := #[s, x], argTypes := #[29, 29] })
    (B : Nat) (v : Value) (l0 l : List Nat) (hs : a.eval s = v) (hown : OwnB B w v l0) (A : Option Addr) (m c : Nat) (hx : a.eval x = .slice A m c) (hb : BytesAt w A l) (hm : l.length = m) (hlen : l0.length + l.length ≤ 225179981368000) (hbase : B ≤ w.heap.size)
    (h : ∀ v' w', OwnB B w' v' (l0 ++ l) → w.grownBy w' v.ownBlock → OwnB B w' v l0 → wpList Try.prog ops Q rest (a.put o.dst v') w') : wpList Try.prog ops Q (o :: rest) a w :=
  wpList_plain hgd fun _ hK => by
    obtain ⟨v', w', hrun, h2, h3, h4⟩ := run_append8w B w o.type v l0 l hown A m c hb hm hlen hbase
    unfold Oper.wp execOp
    simp only [ho, resolve, invoke, builtin, Sem.run_bind, Sem.run_pure, Result.andThen_ok, List.map_toArray, List.map_cons, List.map_nil, hs, hx, hrun]
    exact hK _ _ (h v' w' h2 h3 h4)
end Go.Proofs.Ytjmigglibidbdaa
