/- addTo of the program: words are added to words in their place. Conditions: the words lie in memory, in different blocks; there are not more of the second ones than of the first ones. -/
import Derived.Test.YtkhlhlldlikleaaDoorWrdB
import Derived.Test.YtkhlhlldlikleaaDoorMagC
namespace Go.Proofs.YtkhlhlldlikleaaDoor
set_option linter.unusedVariables false
set_option linter.unusedSimpArgs false
open Go Go.RowKit
theorem Arr.seg {w : World} {g o : Nat} {T : TypeId} {P os Q : List Nat} (h : Arr w g T (P ++ os ++ Q)) (hP : P.length = o) (k : Nat) (hk : k < os.length) : w.cell? ⟨g, o + k, none⟩ = some (.int .u64 (os[k] : Int)) := by
  rw [h.at (o + k) (by simp; omega)]
  congr 3
  subst hP
  rw [List.getElem_append_left (by simp; omega), List.getElem_append_right (by omega)]
  simp
theorem Arr.segset {w : World} {g o : Nat} {T : TypeId} {P os Q : List Nat} (h : Arr w g T (P ++ os ++ Q)) (hP : P.length = o) (k x : Nat) (hk : k < os.length) : Arr (w.setCell ⟨g, o + k, none⟩ (.int .u64 (x : Int))) g T (P ++ os.set k x ++ Q) := by
  have h2 := h.set (o + k) x
  subst hP
  rw [List.append_assoc, List.set_append_right _ _ (by omega), Nat.add_sub_cancel_left, List.set_append_left _ _ hk, ← List.append_assoc] at h2
  exact h2
theorem w64_set {l : List Nat} (h : W64 l) (k x : Nat) (hx : x < 18446744073709551616) : W64 (l.set k x) := by
  intro y hy
  rcases List.mem_or_eq_of_mem_set hy with h2 | h2
  · exact h y h2
  · omega
def AddToPost (g n : Nat) (T : TypeId) (P p Q q : List Nat) (w : World) (e : Ending) (w' : World) : Prop :=
  ∃ (c : Nat) (os : List Nat), e = .returned (.int .u64 (c : Int)) ∧ c ≤ 1 ∧ os.length = n ∧ W64 os ∧ val os + 18446744073709551616 ^ n * c = val p + val q ∧ Arr w' g T (P ++ os ++ Q) ∧ Upd g w w'
/-- The words of a slice are read. -/
def Reads (w : World) (g o : Nat) (q : List Nat) : Prop := g < w.heap.size ∧ ∀ i (h : i < q.length), w.cell? ⟨g, o + i, none⟩ = some (.int .u64 (q[i] : Int))
theorem Reads.upd {w w' : World} {g b o : Nat} {q : List Nat} (h : Reads w g o q) (k : Upd b w w') (hn : g ≠ b) : Reads w' g o q :=
  ⟨Nat.lt_of_lt_of_le h.1 k.2.2.2.1, fun i hi => (World.cell?_of_block (w := w) (w' := w') (a := ⟨g, o + i, none⟩) (k.2.2.2.2 g h.1 hn)).trans (h.2 i hi)⟩
theorem Reads.ext {w w' : World} {g o : Nat} {q : List Nat} (h : Reads w g o q) (k : Ext w w') : Reads w' g o q :=
  ⟨Nat.lt_of_lt_of_le h.1 k.size, fun i hi => (k.cell (p := ⟨g, o + i, none⟩) h.1).trans (h.2 i hi)⟩
theorem Arr.reads {w : World} {g o : Nat} {T : TypeId} {P q Q : List Nat} (h : Arr w g T (P ++ q ++ Q)) (hP : P.length = o) : Reads w g o q := ⟨h.lt, fun i hi => h.seg hP i hi⟩
theorem Upd.drewN {g : Nat} {w w' : World} (h : Upd g w w') (n : Nat) : Upd g w (w'.drewN n) := h.trans (Ext.upd (ext_drewN _ _) g)
theorem Upd.drew {g : Nat} {w w' : World} (h : Upd g w w') : Upd g w w'.drew := h.trans (Ext.upd (ext_drew _) g)
theorem Upd.set {g : Nat} {w w' : World} (h : Upd g w w') (k : Nat) (u : Value) : Upd g w (w'.setCell ⟨g, k, none⟩ u) := h.trans (upd_set _ _ _ _)
set_option maxHeartbeats 1000000 in
theorem p_addTo (g o n ca gb ob m cb : Nat) (T : TypeId) (P p Q q : List Nat) (w : World) (hA : Arr w g T (P ++ p ++ Q)) (hP : P.length = o) (hp : p.length = n) (hq : q.length = m) (hB : Reads w gb ob q) (hne : gb ≠ g) (hmn : m ≤ n) (hn : n ≤ 1000) (wp : W64 p) (wq : W64 q) :
    Calls Tryd.prog 63 #[.slice (some ⟨g, o, none⟩) n ca, .slice (some ⟨gb, ob, none⟩) m cb] w (AddToPost g n T P p Q q w) := by
  have HP := hide hP
  have Hp := hide hp
  have Hq := hide hq
  have HA := hide hA
  have HB := hide hB
  clear hP hp hq hA hB
  go_enter Tryd.func63, Tryd.ntmps63
  go_wp2_with fail
  go_loopw [11, 5] (fun i t wr => ∃ (k c : Nat) (os : List Nat), i = .int .i64 k ∧ t = .int .u64 c ∧ k ≤ m ∧ c ≤ 1 ∧ Hid (AddRel p q os k c) ∧ W64 os ∧ Hid (Arr wr g T (P ++ os ++ Q)) ∧ Upd g w wr) (fun i _ _ => m - (intOf i).toNat)
  case atStart => exact ⟨0, 0, p, rfl, rfl, by omega, by omega, ⟨rfl, rfl, by omega, by simp [val]⟩, wp, HA, Upd.refl _ _⟩
  case round =>
    obtain ⟨k, c, os, rfl, rfl, hk, hc, HR, wo, HO, hU⟩ := hrel
    have HL : Hid (os.length = n) := HR.out.1.trans Hp.out
    by_cases hkm : k < m
    · have hkn : k < os.length := by rw [HL.out]; omega
      have cg := HO.out.seg HP.out k hkn
      have fg := HO.out.free (o + k)
      have cb := (HB.out.upd hU hne).2 k (by rw [Hq.out]; omega)
      obtain ⟨x, hx⟩ : ∃ x, os[k] = x := ⟨_, rfl⟩
      obtain ⟨y, hy⟩ : ∃ y, q[k]'(by rw [Hq.out]; omega) = y := ⟨_, rfl⟩
      rw [hx] at cg
      rw [hy] at cb
      have HX : Hid (x = p[k]'(by rw [Hp.out]; omega)) := by rw [← hx]; exact (drop_get HR.out.2.1 hkn (by rw [Hp.out]; omega)).1
      have HY : Hid (q.getD k 0 = y) := by rw [← hy]; simp [Hid, List.getD, show k < q.length by rw [Hq.out]; omega]
      clear hx hy
      have hadd := add64_run x y c hc
      have HS : Hid (AddRel p q (os.set k ((x + y + c) % 18446744073709551616)) (k + 1) ((x + y + c) / 18446744073709551616)) := by
        have := HR.out.step (by rw [Hp.out]; omega) wp wq
        rw [← HX.out, HY.out] at this
        exact this
      have HW2 := HO.out.segset HP.out k ((x + y + c) % 18446744073709551616) hkn
      rw [show (((x + y + c) % 18446744073709551616 : Nat) : Int) = ((x : Int) + y + c) % 18446744073709551616 by omega] at HW2
      have HW := hide HW2
      have HU := hide (hU.set (o + k) (.int .u64 (((x : Int) + y + c) % 18446744073709551616)))
      clear HW2
      go_wp2
      exact ⟨⟨k + 1, _, _, by go_num, by go_num, by omega, HS.out.2.2.1, HS, w64_set wo _ _ (by omega), HW, HU.out⟩, by simp [intOf]; omega⟩
    · obtain rfl : k = m := by omega
      have HK := hide hU
      have HR0 := hide HR
      clear HR hU HL
      go_wp2_with fail
      go_loopw [8, 5] (fun i t wr => ∃ (j c : Nat) (os : List Nat), i = .int .i64 j ∧ t = .int .u64 c ∧ k ≤ j ∧ j ≤ n ∧ c ≤ 1 ∧ Hid (AddRel p q os j c) ∧ W64 os ∧ Hid (Arr wr g T (P ++ os ++ Q)) ∧ Upd g w wr) (fun i _ _ => n - (intOf i).toNat)
      case atStart => exact ⟨k, c, os, rfl, rfl, by omega, by omega, hc, HR0.out, wo, HO, HK.out⟩
      case round =>
        clear HO HK HR0 wo hc
        obtain ⟨j, c, os, rfl, rfl, hj0, hj, hc, HR, wo, HO, hU⟩ := hrel
        have HL : Hid (os.length = n) := HR.out.1.trans Hp.out
        by_cases hjn : j < n
        · have hkn : j < os.length := by rw [HL.out]; omega
          have cg := HO.out.seg HP.out j hkn
          have fg := HO.out.free (o + j)
          obtain ⟨x, hx⟩ : ∃ x, os[j] = x := ⟨_, rfl⟩
          rw [hx] at cg
          have HX : Hid (x = p[j]'(by rw [Hp.out]; omega)) := by rw [← hx]; exact (drop_get HR.out.2.1 hkn (by rw [Hp.out]; omega)).1
          have HY : Hid (q.getD j 0 = 0) := by simp [Hid, List.getD, show q.length ≤ j by rw [Hq.out]; omega]
          clear hx
          have hadd := add64_run0 x c hc
          have HS : Hid (AddRel p q (os.set j ((x + 0 + c) % 18446744073709551616)) (j + 1) ((x + 0 + c) / 18446744073709551616)) := by
            have := HR.out.step (by rw [Hp.out]; omega) wp wq
            rw [← HX.out, HY.out] at this
            exact this
          have HW2 := HO.out.segset HP.out j ((x + 0 + c) % 18446744073709551616) hkn
          rw [show (((x + 0 + c) % 18446744073709551616 : Nat) : Int) = ((x : Int) + c) % 18446744073709551616 by omega] at HW2
          have HW := hide HW2
          have HU := hide (hU.set (o + j) (.int .u64 (((x : Int) + c) % 18446744073709551616)))
          clear HW2
          go_wp2
          exact ⟨⟨j + 1, _, _, by go_num, by go_num, by omega, by omega, HS.out.2.2.1, HS, w64_set wo _ _ (by omega), HW, HU.out⟩, by simp [intOf]; omega⟩
        · obtain rfl : j = n := by omega
          have H1 : Hid (val os + 18446744073709551616 ^ j * c = val p + val q) := by
            have h1 := HR.out
            rw [show j = p.length from Hp.out.symm] at h1
            have h2 := h1.done (by rw [Hp.out, Hq.out]; omega)
            rw [val_snoc, HL.out] at h2
            exact h2
          go_wp2
          go_ret
          exact ⟨c, os, rfl, hc, HL.out, wo, H1.out, HO.out, hU⟩
end Go.Proofs.YtkhlhlldlikleaaDoor
