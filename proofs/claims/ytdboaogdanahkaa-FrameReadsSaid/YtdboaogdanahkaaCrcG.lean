/- The reference's Number and Append. Conditions: the slice reads as at most 2^47 - 8 bytes. -/
import Derived.Test.YtdboaogdanahkaaCrcD
import Derived.Test.YtdboaogdanahkaaByB
import Derived.Test.YtdboaogdanahkaaBase
namespace Go.Proofs.Ytdboaogdanahkaa
set_option linter.unusedVariables false
set_option linter.unusedSimpArgs false
open Go Go.RowKit
def numL (v : Nat) : Nat → List Nat
  | 0 => []
  | n + 1 => numL v n ++ [v / 256 ^ n % 256]
theorem numL_b (v n : Nat) : IsB (numL v n) := by
  induction n with
  | zero => exact IsB.nil
  | succ n ih => exact ih.app (IsB.one (by omega))
theorem numL_len (v n : Nat) : (numL v n).length = n := by
  induction n with
  | zero => rfl
  | succ n ih => simp [numL, ih]
set_option maxHeartbeats 1600000 in
set_option maxRecDepth 100000 in
theorem r_number (A : Option Addr) (c cap v n : Nat) (l : List Nat) (W : World) (h : BytesAt W A l) (hc : l.length = c) (hlen : c ≤ 140737488355320) (hv : v < 18446744073709551616) (hn : n ≤ 8) :
    Calls Try.prog 31 #[.slice A c cap, .int .u64 (v : Int), .int .i64 (n : Int)] W (OwnRet (l ++ numL v n) W) := by
  have O0 : OwnB W.heap.size (W.alloc (.cells #[] 5)) (.slice (some ⟨W.heap.size, 0, none⟩) 0 0) [] := own_of (m := []) (Nat.le_refl _) (heap_alloc_new W _) rfl rfl (by omega) IsB.nil
  have E0 := ext_alloc W (.cells #[] 5)
  have H0 := h.ext E0
  have B0 : W.heap.size ≤ (W.alloc (.cells #[] 5)).heap.size := E0.size
  have L0 : ([] : List Nat).length + l.length ≤ 140737488355328 := by simp; omega
  go_enter Try.func31, Try.ntmps31
  go_wp2_with (at_builtin; refine wl_append8 rfl (.tmp 9) (.tmp 10) rfl W.heap.size _ [] l rfl O0 A c cap rfl H0 hc L0 B0 ?_; intro v1 w1 hO hG hA)
  rw [List.nil_append] at hO
  have E1 : Below W.heap.size W w1 := below_grown E0 (Nat.le_refl _) O0 hG
  have HO := hide hO
  have HE := hide E1
  have HC := hide hc
  clear O0 E0 H0 B0 L0 hO hG hA E1 h hc
  go_loopw [7, 8] (fun u i wr => ∃ k : Nat, k ≤ n ∧ i = .int .i64 k ∧ Hid (OwnB W.heap.size wr u (l ++ numL v k)) ∧ Hid (Below W.heap.size W wr)) (fun _ i _ => n - (intOf i).toNat)
  case atStart => exact ⟨0, by omega, rfl, hide (by rw [numL, List.append_nil]; exact HO.out), HE⟩
  case round =>
    clear HO HE
    obtain ⟨k, hk, rfl, HO, HE⟩ := hrel
    by_cases hlt : k < n
    · have hu : Value.int .u8 ((v : Int) / 2 ^ (8 * k) % 256) = Value.int .u8 ((v / 256 ^ k % 256 : Nat) : Int) := by
        have e : (2 : Int) ^ (8 * k) = ((256 ^ k : Nat) : Int) := by rw [Int.pow_mul]; simp
        rw [e]; rfl
      have hO := one_at wr (v / 256 ^ k % 256) (by omega) _ hu
      have hO1 := HO.out.alloc (.cells #[Value.int .u8 ((v : Int) / 2 ^ (8 * k) % 256)] 5)
      have hlen1 : (l ++ numL v k).length + [v / 256 ^ k % 256].length ≤ 140737488355328 := by
        rw [List.length_append, numL_len]; have := HC.out; simp; omega
      have hB1 : W.heap.size ≤ (wr.alloc (.cells #[Value.int .u8 ((v : Int) / 2 ^ (8 * k) % 256)] 5)).heap.size := by have := HE.out.size; simp; omega
      have hE1 := Below.alloc HE.out HE.out.size (.cells #[Value.int .u8 ((v : Int) / 2 ^ (8 * k) % 256)] 5)
      have hO := hide hO
      have hO1 := hide hO1
      have hE1 := hide hE1
      clear hu
      go_wp2_with (at_builtin; refine wl_append8 rfl (.tmp 17) (.tmp 24) rfl W.heap.size _ _ _ rfl hO1.out _ 1 1 rfl hO.out rfl hlen1 hB1 ?_; intro v2 w2 hO2 hG2 hA2; have hE2 := hide (below_grown hE1.out (Nat.le_refl _) hO1.out hG2); have hO2 := hide hO2; clear hG2 hA2)
      go_roundw
      case rel => exact ⟨k + 1, by omega, by go_num, hide (by rw [numL, ← List.append_assoc]; exact hO2.out), hE2⟩
      case measure => simp [intOf]; omega
    · obtain rfl : k = n := by omega
      go_wp2_with fail
      go_ret
      exact ⟨_, rfl, HO.out, HE.out⟩
theorem numL_tail (x : BitVec 32) : numL x.toNat 4 = tailL x := by simp [numL, tailL]
theorem r_append (A : Option Addr) (c cap : Nat) (l : List Nat) (W : World) (h : BytesAt W A l) (hc : l.length = c) (hlen : c ≤ 140737488355320) :
    Calls Try.prog 30 #[.slice A c cap] W (OwnRet (l ++ tailL (crcB 0#32 l)) W) := by
  have KS : Hid (∀ w, Ext W w → Calls Try.prog 60 #[.slice A c cap] w (CrcRet (crcB 0#32 l) w)) := fun w e => by subst hc; exact r_sum A cap l w (h.ext e)
  obtain ⟨x, hx⟩ : ∃ x, crcB 0#32 l = x := ⟨_, rfl⟩
  rw [hx] at KS ⊢
  have KN : Hid (∀ w, Ext W w → Calls Try.prog 31 #[.slice A c cap, .int .u64 (x.toNat : Int), .int .i64 4] w (OwnRet (l ++ tailL x) w)) := fun w e => by
    have hxl := x.isLt
    have := r_number A c cap x.toNat 4 l w (h.ext e) hc hlen (by omega) (by omega)
    rw [numL_tail] at this
    exact this
  clear hx h hc
  go_enter Try.func30, Try.ntmps30
  go_wp2_with (first
    | (go_at_call 60; (with_reducible refine (KS.out _ (Ext.refl _)).mono ?_); rintro e w1 ⟨rfl, hE⟩)
    | (go_at_call 31; (with_reducible refine (KN.out _ hE).mono ?_); rintro e w2 ⟨v, rfl, hO, hE2⟩))
  go_ret
  exact ⟨_, rfl, hO.less hE.size, hE.trans hE2⟩
end Go.Proofs.Ytdboaogdanahkaa
