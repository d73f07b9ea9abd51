/- The reference's comparison of bytes. Conditions: the slices read as bytes. -/
import Derived.Test.YtjmigglibidbdaaByB
import Derived.Test.YtjmigglibidbdaaBase
namespace Go.Proofs.Ytjmigglibidbdaa
set_option linter.unusedVariables false
set_option linter.unusedSimpArgs false
open Go Go.RowKit
theorem take_eq_succ {l m : List Nat} {k : Nat} (h1 : k < l.length) (h2 : k < m.length) (h : l.take k = m.take k) : (l.take (k + 1) = m.take (k + 1)) ↔ l.getD k 0 = m.getD k 0 := by
  rw [take_succ h1, take_succ h2, h]
  simp
set_option maxRecDepth 100000 in
theorem r_same_ne (A A' : Option Addr) (n n' c c' : Nat) (W : World) (h : n ≠ n') (h1 : n ≤ 9223372036854775807) (h2 : n' ≤ 9223372036854775807) : Calls Try.prog 13 #[.slice A n c, .slice A' n' c'] W (Ret (.bool false) W) := by
  have hb : ((n : Int) != (n' : Int)) = true := by rw [bne_iff_ne]; omega
  have hb' : ¬ ((n : Int) = (n' : Int)) := by omega
  go_enter Try.func13, Try.ntmps13
  go_wp2_with fail
  go_ret
  exact ⟨rfl, Ext.refl _⟩
set_option maxHeartbeats 800000 in
set_option maxRecDepth 100000 in
theorem r_same_eq (A A' : Option Addr) (n c c' : Nat) (l m : List Nat) (W : World) (hl : BytesAt W A l) (hm : BytesAt W A' m) (hn : l.length = n) (hn' : m.length = n) (v : Bool) (hv : decide (l = m) = v) :
    Calls Try.prog 13 #[.slice A n c, .slice A' n c'] W (Ret (.bool v) W) := by
  have hlen := hl.2.1
  rw [hn] at hlen
  have HL := hide hl
  have HM := hide hm
  have Hn := hide hn
  have Hn' := hide hn'
  have Hv := hide hv
  have hb : ((n : Int) != (n : Int)) = false := by simp
  clear hl hm hn hn' hv
  go_enter Try.func13, Try.ntmps13
  go_wp2_with fail
  go_loopw [5] (fun i wr => ∃ k : Nat, k ≤ n ∧ i = .int .i64 k ∧ Hid (Ext W wr) ∧ Hid (l.take k = m.take k)) (fun i _ => n - (intOf i).toNat)
  case atStart => exact ⟨0, by omega, rfl, hide (Ext.refl _), hide (by simp)⟩
  case round =>
    obtain ⟨k, hk, rfl, E, T⟩ := hrel
    by_cases hlt : k < n
    · have hkl : k < l.length := by rw [Hn.out]; exact hlt
      have hkm : k < m.length := by rw [Hn'.out]; exact hlt
      obtain ⟨b, off, rfl, hb1, hc1⟩ := (HL.out.ext E.out).2.2 (by omega)
      obtain ⟨b', off', rfl, hb2, hc2⟩ := (HM.out.ext E.out).2.2 (by omega)
      have d1 := hc1 k hkl
      have d2 := hc2 k hkm
      have hs := hide (take_eq_succ hkl hkm T.out)
      have hne : Hid (l.getD k 0 ≠ m.getD k 0 → l ≠ m) := fun h e => h (by rw [e])
      obtain ⟨x, hx⟩ : ∃ x, l.getD k 0 = x := ⟨_, rfl⟩
      obtain ⟨y, hy⟩ : ∃ y, m.getD k 0 = y := ⟨_, rfl⟩
      rw [hx] at d1 hs hne
      rw [hy] at d2 hs hne
      clear hc1 hc2 hx hy hkl hkm hb1 hb2
      by_cases hxy : x = y
      · have q : ((x : Int) != (y : Int)) = false := by subst hxy; simp
        have Hxy := hide hxy
        clear hxy
        go_wp2_with fail
        go_quiet (fail)
        go_wp2_with fail
        go_roundw
        case rel => exact ⟨k + 1, by omega, by go_num, hide (E.out.trans (ext_drewN _ _)), hide (hs.out.2 Hxy.out)⟩
        case measure => simp [intOf]; omega
      · have q : ((x : Int) != (y : Int)) = true := by rw [bne_iff_ne]; omega
        go_wp2_with fail
        go_quiet (fail)
        go_wp2_with fail
        go_ret
        refine ⟨?_, E.out.trans (ext_drewN _ _)⟩
        have := hne.out hxy
        rw [← Hv.out, decide_eq_false this]
        rfl
    · obtain rfl : k = n := by omega
      go_wp2_with fail
      go_ret
      refine ⟨?_, E.out⟩
      have e : l = m := by
        have := T.out
        rw [List.take_of_length_le (by have := Hn.out; omega), List.take_of_length_le (by have := Hn'.out; omega)] at this
        exact this
      rw [← Hv.out, decide_eq_true e]
      rfl
theorem r_same (A A' : Option Addr) (n n' c c' : Nat) (l m : List Nat) (W : World) (hl : BytesAt W A l) (hm : BytesAt W A' m) (hn : l.length = n) (hn' : m.length = n') (v : Bool) (hv : decide (l = m) = v) :
    Calls Try.prog 13 #[.slice A n c, .slice A' n' c'] W (Ret (.bool v) W) := by
  by_cases h : n = n'
  · subst h
    exact r_same_eq A A' n c c' l m W hl hm hn hn' v hv
  · have e : v = false := by
      rw [← hv, decide_eq_false]
      intro e; subst e; omega
    subst e
    exact r_same_ne A A' n n' c c' W h (by have := hl.2.1; omega) (by have := hm.2.1; omega)
end Go.Proofs.Ytjmigglibidbdaa
