/- Words in memory: sub of the reference of layer 2. Conditions: the slices are words that lie in memory, at most 1000 of them, and the second number is not greater than the first. -/
import Derived.Test.YtkhlhlldlikleaaDoorMagB
namespace Go.Proofs.YtkhlhlldlikleaaDoor
set_option linter.unusedVariables false
set_option linter.unusedSimpArgs false
open Go Go.RowKit
/-- What has been subtracted so far. -/
def SubRel (p q os : List Nat) (k c : Nat) : Prop := os.length = p.length ∧ os.drop k = p.drop k ∧ c ≤ 1 ∧ val (os.take k) + val (q.take k) = val (p.take k) + 18446744073709551616 ^ k * c
theorem SubRel.step {p q os : List Nat} {k c : Nat} (h : SubRel p q os k c) (hk : k < p.length) (hp : W64 p) (hq : W64 q) :
    SubRel p q (os.set k ((p[k] + 18446744073709551616 - q.getD k 0 - c) % 18446744073709551616)) (k + 1) (if p[k] < q.getD k 0 + c then 1 else 0) := by
  obtain ⟨h1, h2, h3, h4⟩ := h
  have hx := w64_get hp k hk
  have hy : q.getD k 0 < 18446744073709551616 := by
    by_cases hkq : k < q.length
    · have := w64_get hq k hkq; simp [List.getD, hkq]; exact this
    · simp [List.getD, show q.length ≤ k by omega]
  refine ⟨by simpa using h1, by rw [drop_set]; exact (drop_get h2 (by omega) hk).2, by split <;> omega, ?_⟩
  rw [val_set_take _ _ _ (by omega), val_take_succ p k hk, val_take_getD q k, Nat.pow_succ]
  generalize p[k] = x at *
  generalize q.getD k 0 = y at *
  obtain ⟨r, hr⟩ : ∃ r, (x + 18446744073709551616 - y - c) % 18446744073709551616 = r := ⟨_, rfl⟩
  rw [hr]
  split
  · have e : r + y + c = x + 18446744073709551616 := by omega
    grind
  · have e : r + y + c = x := by omega
    grind
theorem SubRel.done {p q os : List Nat} {c : Nat} (h : SubRel p q os p.length c) (hq : q.length ≤ p.length) (ho : W64 os) (hle : val q ≤ val p) : val os = val p - val q := by
  obtain ⟨h1, _, h3, h4⟩ := h
  rw [List.take_of_length_le (by omega), List.take_length, List.take_of_length_le hq] at h4
  have h5 := val_lt os ho
  rw [h1] at h5
  have : c = 0 ∨ c = 1 := by omega
  rcases this with rfl | rfl
  · simp at h4; omega
  · simp at h4; omega
theorem sub64_run0 (x c : Nat) (hc : c ≤ 1) (w : World) : (callFunc 65 #[.int .u64 x, .int .u64 0, .int .u64 c]).run Tryd.prog w =
      .ok (.value (.tuple #[.int .u64 (((x + 18446744073709551616 - 0 - c) % 18446744073709551616 : Nat) : Int), .int .u64 ((if x < 0 + c then 1 else 0 : Nat) : Int)])) w := sub64_run x 0 c hc w
theorem ref_sub (B C D : Nat) (u v : Value) (n m : Nat) (w : World) (h : Words C w u (limbs n)) (k : Words D w v (limbs m)) (hB : B ≤ w.heap.size) (hn : (limbs n).length ≤ 1000) (hm : (limbs m).length ≤ 1000) (hmn : m ≤ n) :
    Calls Tryd.prog 61 #[u, v] w (NewWords B (n - m) w) := by
  obtain ⟨la, hla⟩ : ∃ la, (limbs n).length = la := ⟨_, rfl⟩
  obtain ⟨lb, hlb⟩ : ∃ lb, (limbs m).length = lb := ⟨_, rfl⟩
  obtain ⟨a, ca, rfl, a1, a2, _⟩ := h.shape la hla
  obtain ⟨b, cb, rfl, b1, b2, _⟩ := k.shape lb hlb
  have hlt : ¬ la < lb := fun e => by have := len_lt (n := n) (m := m) (by omega); omega
  rw [hla] at hn
  rw [hlb] at hm
  have HA := hide hla
  have HB := hide hlb
  have KA := hide h
  have KB := hide k
  have HE := hide (words_empty w.heap.size w w.heap.size rfl (Nat.le_refl _))
  clear hla hlb h k
  have hE0 := hide (ext_alloc w (.cells #[] 22))
  have hS := hide (Nat.le_succ w.heap.size)
  go_enter Tryd.func61, Tryd.ntmps61
  go_wp2_with (at_builtin; refine append_words rfl (.tmp 9) (.tmp 10) rfl w.heap.size C _ _ [] (limbs n) rfl rfl HE.out (KA.out.ext hE0.out) (by simp) (by rw [HA.out]; simp; omega) w hE0.out (Nat.le_refl _) ?_; intro v1 w1 hv1 hE1)
  have HV := hide hv1
  obtain ⟨ao, cap1, rfl, _, c2, _⟩ := hv1.shape la (by simpa using HA.out)
  clear hv1
  go_loopw [6, 7] (fun t i wr => ∃ (k c : Nat) (os : List Nat), i = .int .i64 k ∧ t = .int .u64 c ∧ k ≤ la ∧ c ≤ 1 ∧ Hid (SubRel (limbs n) (limbs m) os k c) ∧ Words w.heap.size wr (.slice ao la cap1) os ∧ Ext w wr) (fun _ i _ => la - (intOf i).toNat)
  case atStart => exact ⟨0, 0, limbs n, rfl, rfl, by omega, by omega, ⟨rfl, rfl, by omega, by simp [val]⟩, by simpa using HV.out, hE1⟩
  case round =>
    obtain ⟨k, c, os, rfl, rfl, hk, hc, HR, hW, hE⟩ := hrel
    have hol : os.length = la := by rw [HR.out.1]; exact HA.out
    have HO := hide hol
    clear hol
    by_cases hkl : k < la
    · obtain ⟨g, rfl, hg0, hg, cg, fg⟩ := hW.at k (by rw [HO.out]; exact hkl)
      obtain ⟨x, hx⟩ : ∃ x, os[k]'(by rw [HO.out]; exact hkl) = x := ⟨_, rfl⟩
      rw [hx] at cg
      have HX : Hid (x = (limbs n)[k]'(by rw [HA.out]; exact hkl)) := by rw [← hx]; exact (drop_get HR.out.2.1 (by rw [HO.out]; exact hkl) (by rw [HA.out]; exact hkl)).1
      clear hx
      by_cases hkb : k < lb
      · obtain ⟨gb, rfl, _, hgb, cb, _⟩ := KB.out.at k (by rw [HB.out]; exact hkb)
        have cb' : wr.cell? ⟨gb, k, none⟩ = _ := (hE.cell (p := ⟨gb, k, none⟩) hgb).trans cb
        obtain ⟨y, hy⟩ : ∃ y, (limbs m)[k]'(by rw [HB.out]; exact hkb) = y := ⟨_, rfl⟩
        rw [hy] at cb'
        clear cb
        have HY : Hid ((limbs m).getD k 0 = y) := by rw [← hy]; simp [Hid, List.getD, show k < (limbs m).length by rw [HB.out]; exact hkb]
        clear hy
        have hadd := sub64_run x y c hc
        have HS : Hid (SubRel (limbs n) (limbs m) (os.set k ((x + 18446744073709551616 - y - c) % 18446744073709551616)) (k + 1) (if x < y + c then 1 else 0)) := by
          have := HR.out.step (by rw [HA.out]; exact hkl) (limbs_w n) (limbs_w m)
          rw [← HX.out, HY.out] at this
          exact this
        have HW2 := hW.set HO.out k ((x + 18446744073709551616 - y - c) % 18446744073709551616) (by omega)
        have HW := hide HW2
        clear HW2
        go_wp2
        exact ⟨⟨k + 1, _, _, by go_num, by (first | rfl | go_num | simp), by omega, HS.out.2.2.1, HS, HW.out, ext_set hE hg0 _ _⟩, by first | (simp [intOf]; done) | (simp [intOf]; omega)⟩
      · have HY : Hid ((limbs m).getD k 0 = 0) := by simp [Hid, List.getD, show (limbs m).length ≤ k by rw [HB.out]; omega]
        have hadd := sub64_run0 x c hc
        have HS : Hid (SubRel (limbs n) (limbs m) (os.set k ((x + 18446744073709551616 - 0 - c) % 18446744073709551616)) (k + 1) (if x < 0 + c then 1 else 0)) := by
          have := HR.out.step (by rw [HA.out]; exact hkl) (limbs_w n) (limbs_w m)
          rw [← HX.out, HY.out] at this
          exact this
        have HW2 := hW.set HO.out k ((x + 18446744073709551616 - 0 - c) % 18446744073709551616) (by omega)
        have HW := hide HW2
        clear HW2
        go_wp2
        exact ⟨⟨k + 1, _, _, by go_num, by (first | rfl | go_num | simp), by omega, HS.out.2.2.1, HS, HW.out, ext_set hE hg0 _ _⟩, by first | (simp [intOf]; done) | (simp [intOf]; omega)⟩
    · obtain rfl : k = la := by omega
      have H1 : Hid (val os = n - m) := by
        have h1 := HR.out
        rw [show k = (limbs n).length from HA.out.symm] at h1
        have := h1.done (by rw [HA.out, HB.out]; omega) hW.2 (by rw [val_limbs, val_limbs]; exact hmn)
        rwa [val_limbs, val_limbs] at this
      go_wp2_with (go_at_call 81; refine (trim_any _ _ _ _ hW).mono ?_; rintro e w' ⟨v3, rfl, hv3, rfl⟩)
      go_ret
      exact ⟨_, rfl, by rw [← H1.out]; exact hv3.base hB, hE⟩
end Go.Proofs.YtkhlhlldlikleaaDoor
