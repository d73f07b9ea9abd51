/- The reference's Append and Size of layer 5. Conditions: the slice reads as at most 2^47 - 64 bytes. -/
import Derived.Test.YthlficnmpgkceaaVgr
import Derived.Test.YthlficnmpgkceaaByB
import Derived.Test.YthlficnmpgkceaaBase
namespace Go.Proofs.Ythlficnmpgkceaa
set_option linter.unusedVariables false
set_option linter.unusedSimpArgs false
open Go Go.RowKit
set_option maxHeartbeats 1600000 in
set_option maxRecDepth 100000 in
theorem v_append (A : Option Addr) (c cap v : Nat) (l : List Nat) (W : World) (h : BytesAt W A l) (hc : l.length = c) (hlen : c ≤ 140737488355264) (hv : v < 18446744073709551616) :
    Calls Try.prog 19 #[.slice A c cap, .int .u64 (v : Int)] W (OwnRet (l ++ encB v) W) := by
  have O0 : OwnB W.heap.size (W.alloc (.cells #[] 5)) (.slice (some ⟨W.heap.size, 0, none⟩) 0 0) [] := own_of (m := []) (Nat.le_refl _) (heap_alloc_new W _) rfl rfl (by omega) IsB.nil
  have E0 := ext_alloc W (.cells #[] 5)
  have H0 := h.ext E0
  have B0 : W.heap.size ≤ (W.alloc (.cells #[] 5)).heap.size := E0.size
  have L0 : ([] : List Nat).length + l.length ≤ 140737488355328 := by simp; omega
  have m1 : (encB v).length ≤ 10 := encB_length_le v 9 (by omega)
  go_enter Try.func19, Try.ntmps19
  go_wp2_with (at_builtin; refine wl_append8 rfl (.tmp 6) (.tmp 7) rfl W.heap.size _ [] l rfl O0 A c cap rfl H0 hc L0 B0 ?_; intro v1 w1 hO hG hA)
  rw [List.nil_append] at hO
  have E1 : Below W.heap.size W w1 := below_grown E0 (Nat.le_refl _) O0 hG
  have HO := hide hO
  have HE := hide E1
  have HC := hide hc
  clear O0 E0 H0 B0 L0 hO hG hA E1 h hc
  go_loopw [1, 5] (fun i u wr => ∃ (n : Nat) (p : List Nat), n < 18446744073709551616 ∧ i = .int .u64 n ∧ Hid (p ++ encB n = encB v) ∧ Hid (OwnB W.heap.size wr u (l ++ p)) ∧ Hid (Below W.heap.size W wr)) (fun i _ _ => (intOf i).toNat)
  case atStart => exact ⟨v, [], hv, rfl, hide rfl, hide (by rw [List.append_nil]; exact HO.out), HE⟩
  case round =>
    clear HO HE
    obtain ⟨n, p, hn, rfl, HP, HO, HE⟩ := hrel
    have hpl : p.length ≤ 10 := by
      have := congrArg List.length HP.out
      rw [List.length_append] at this; omega
    by_cases hge : 128 ≤ n
    · have hge' : (128 : Int) ≤ (n : Int) := by omega
      have hu : Value.int .u8 ((n : Int) % 128 + 128) = Value.int .u8 ((n % 128 + 128 : Nat) : Int) := rfl
      have hO := one_at wr (n % 128 + 128) (by omega) _ hu
      have hO1 := HO.out.alloc (.cells #[Value.int .u8 ((n : Int) % 128 + 128)] 5)
      have hlen1 : (l ++ p).length + [n % 128 + 128].length ≤ 140737488355328 := by
        rw [List.length_append]; have := HC.out; simp; omega
      have hB1 : W.heap.size ≤ (wr.alloc (.cells #[Value.int .u8 ((n : Int) % 128 + 128)] 5)).heap.size := by have := HE.out.size; simp; omega
      have hE1 := Below.alloc HE.out HE.out.size (.cells #[Value.int .u8 ((n : Int) % 128 + 128)] 5)
      have hO := hide hO
      have hO1 := hide hO1
      have hE1 := hide hE1
      have HP2 : Hid ((p ++ [n % 128 + 128]) ++ encB (n / 128) = encB v) := by
        show _ = _
        rw [← HP.out, encB_big hge]; simp
      clear hu HP
      go_wp2_with (at_builtin; refine wl_append8 rfl (.tmp 11) (.tmp 16) rfl W.heap.size _ _ _ rfl hO1.out _ 1 1 rfl hO.out rfl hlen1 hB1 ?_; intro v2 w2 hO2 hG2 hA2; have hE2 := hide (below_grown hE1.out (Nat.le_refl _) hO1.out hG2); have hO2 := hide hO2; clear hG2 hA2)
      go_roundw
      case rel => exact ⟨n / 128, p ++ [n % 128 + 128], by omega, rfl, HP2, hide (by rw [← List.append_assoc]; exact hO2.out), hE2⟩
      case measure => simp [intOf]; omega
    · have hge' : ¬ (128 : Int) ≤ (n : Int) := by omega
      have hO := one_at wr n (by omega) (.int .u8 (n : Int)) rfl
      have hO1 := HO.out.alloc (.cells #[Value.int .u8 (n : Int)] 5)
      have hlen1 : (l ++ p).length + [n].length ≤ 140737488355328 := by
        rw [List.length_append]; have := HC.out; simp; omega
      have hB1 : W.heap.size ≤ (wr.alloc (.cells #[Value.int .u8 (n : Int)] 5)).heap.size := by have := HE.out.size; simp; omega
      have hE1 := Below.alloc HE.out HE.out.size (.cells #[Value.int .u8 (n : Int)] 5)
      have hO := hide hO
      have hO1 := hide hO1
      have hE1 := hide hE1
      have HP2 : Hid (p ++ [n] = encB v) := by
        show _ = _
        rw [← HP.out, encB_small (by omega)]
      clear HP
      go_wp2_with (at_builtin; refine wl_append8 rfl (.tmp 20) (.tmp 23) rfl W.heap.size _ _ _ rfl hO1.out _ 1 1 rfl hO.out rfl hlen1 hB1 ?_; intro v2 w2 hO2 hG2 hA2; have hE2 := hide (below_grown hE1.out (Nat.le_refl _) hO1.out hG2); have hO2 := hide hO2; clear hG2 hA2)
      go_ret
      exact ⟨_, rfl, by rw [← HP2.out, ← List.append_assoc]; exact hO2.out, hE2.out⟩
theorem v_size (v : Nat) (W : World) (hv : v < 18446744073709551616) : Calls Try.prog 21 #[.int .u64 (v : Int)] W (Ret (.int .i64 ((encB v).length : Int)) W) := by
  have K : Hid (∀ w, Calls Try.prog 19 #[.slice none 0 0, .int .u64 (v : Int)] w (OwnRet (encB v) w)) := fun w => v_append none 0 0 v [] w (BytesAt.nil _ _) rfl (by omega) hv
  go_enter Try.func21, Try.ntmps21
  go_wp2_with fail
  (with_reducible refine (K.out _).mono ?_)
  rintro e w1 ⟨u, rfl, hO, hE⟩
  obtain ⟨A, cap, rfl, -, -, -⟩ := hO.at_
  go_wp2_with fail
  go_ret
  exact ⟨rfl, hE⟩
end Go.Proofs.Ythlficnmpgkceaa
