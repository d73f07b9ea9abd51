/- shiftUp and shiftDown of the program. Conditions: the words are of 64 bits; the shift is less than 64. -/
import Derived.Test.YtkhlhlldlikleaaDoorDivD
namespace Go.Proofs.YtkhlhlldlikleaaDoor
set_option linter.unusedVariables false
set_option linter.unusedSimpArgs false
open Go Go.RowKit
theorem or_sum' (x y s : Nat) (hs : s ≤ 64) (hy : y < 2 ^ s) (hx : x * 2 ^ s < 18446744073709551616) : bits .or .u64 (y : Int) ((x * 2 ^ s : Nat) : Int) = ((x * 2 ^ s + y : Nat) : Int) := by
  rw [← or_sum x y s hs hy hx]
  show IntKind.u64.wrap ((BitVec.ofInt 64 (y : Int) ||| BitVec.ofInt 64 ((x * 2 ^ s : Nat) : Int)).toNat : Int) = IntKind.u64.wrap ((BitVec.ofInt 64 ((x * 2 ^ s : Nat) : Int) ||| BitVec.ofInt 64 (y : Int)).toNat : Int)
  rw [BitVec.or_comm]
theorem two64 (s : Nat) (hs : s ≤ 64) : (18446744073709551616 : Nat) = 2 ^ s * 2 ^ (64 - s) := by
  rw [← Nat.pow_add, show s + (64 - s) = 64 by omega]
/-- A word shifted up: what stays, and what goes over. -/
theorem shl_parts (x s c : Nat) (hs : s < 64) (hx : x < 18446744073709551616) (hc : c < 2 ^ s) :
    ∃ l t z : Nat, IntKind.u64.wrap ((x : Int) * 2 ^ s) = (l : Int) ∧ bits .or .u64 (l : Int) (c : Int) = (z : Int) ∧ (x : Int) / 2 ^ (64 - s) = (t : Int) ∧ Hid (z + 18446744073709551616 * t = x * 2 ^ s + c ∧ z < 18446744073709551616 ∧ t < 2 ^ s) := by
  have c2 : ((2 : Int) ^ s) = ((2 ^ s : Nat) : Int) := by rw [Int.natCast_pow]; rfl
  have c3 : ((2 : Int) ^ (64 - s)) = ((2 ^ (64 - s) : Nat) : Int) := by rw [Int.natCast_pow]; rfl
  have hp := two64 s (by omega)
  have ps := Nat.two_pow_pos s
  have pt := Nat.two_pow_pos (64 - s)
  have e1 := Nat.div_add_mod x (2 ^ (64 - s))
  have hm := Nat.mod_lt x pt
  have hl : x % 2 ^ (64 - s) * 2 ^ s < 18446744073709551616 := by
    rw [hp, Nat.mul_comm (2 ^ s)]; exact Nat.mul_lt_mul_of_pos_right hm ps
  have e2 : x * 2 ^ s = x % 2 ^ (64 - s) * 2 ^ s + 18446744073709551616 * (x / 2 ^ (64 - s)) := by
    have h1 := congrArg (· * 2 ^ s) e1
    simp only [Nat.add_mul] at h1
    have h2 : 2 ^ (64 - s) * (x / 2 ^ (64 - s)) * 2 ^ s = 18446744073709551616 * (x / 2 ^ (64 - s)) := by
      rw [hp, Nat.mul_right_comm, Nat.mul_comm (2 ^ (64 - s)) (2 ^ s)]
    omega
  have ht : x / 2 ^ (64 - s) < 2 ^ s := by rw [Nat.div_lt_iff_lt_mul pt, ← hp]; exact hx
  have ho := or_sum (x % 2 ^ (64 - s)) c s (by omega) hc hl
  have hz : x % 2 ^ (64 - s) * 2 ^ s + c < 18446744073709551616 := by
    have h3 : (x % 2 ^ (64 - s) + 1) * 2 ^ s ≤ 2 ^ (64 - s) * 2 ^ s := Nat.mul_le_mul_right _ hm
    rw [Nat.add_mul, Nat.one_mul, Nat.mul_comm (2 ^ (64 - s)), ← hp] at h3
    omega
  refine ⟨x % 2 ^ (64 - s) * 2 ^ s, x / 2 ^ (64 - s), x % 2 ^ (64 - s) * 2 ^ s + c, ?_, ho, ?_, ?_⟩
  · rw [c2, ← Int.natCast_mul, wrap_u64', e2]; omega
  · rw [c3, Int.natCast_ediv]
  · exact ⟨by omega, hz, ht⟩
def UpRel (L os : List Nat) (s k c : Nat) : Prop := os.length = L.length ∧ os.drop k = L.drop k ∧ c < 2 ^ s ∧ val (os.take k) + 18446744073709551616 ^ k * c = val (L.take k) * 2 ^ s
theorem UpRel.step {L os : List Nat} {s k c x z t : Nat} (h : UpRel L os s k c) (hk : k < L.length) (hx : L[k] = x) (hz : z + 18446744073709551616 * t = x * 2 ^ s + c ∧ z < 18446744073709551616 ∧ t < 2 ^ s) : UpRel L (os.set k z) s (k + 1) t := by
  obtain ⟨h1, h2, h3, h4⟩ := h
  refine ⟨by simpa using h1, by rw [drop_set]; exact (drop_get h2 (by omega) hk).2, hz.2.2, ?_⟩
  rw [val_set_take _ _ _ (by omega), val_take_succ L k hk, hx, Nat.pow_succ, Nat.add_mul, ← h4, Nat.mul_assoc, Nat.mul_assoc]
  have e := congrArg (18446744073709551616 ^ k * ·) hz.1
  simp only [Nat.mul_add] at e
  omega
def ShiftRet (n s : Nat) (w : World) (e : Ending) (w' : World) : Prop := ∃ a1 b1 c1 d1 r : Nat, e = .returned (.tuple #[.agg #[.int .u64 (a1 : Int), .int .u64 (b1 : Int), .int .u64 (c1 : Int), .int .u64 (d1 : Int)], .int .u64 (r : Int)]) ∧ W64 [a1, b1, c1, d1] ∧ mag4 a1 b1 c1 d1 + 115792089237316195423570985008687907853269984665640564039457584007913129639936 * r = n * 2 ^ s ∧ r < 2 ^ s ∧ Ext w w'
set_option maxHeartbeats 1000000 in
theorem p_shiftUp (a b c d n s : Nat) (hn : mag4 a b c d = n) (w : World) (hw : W64 [a, b, c, d]) (hs : s < 64) :
    Calls Tryd.prog 69 #[.agg #[.int .u64 (a : Int), .int .u64 (b : Int), .int .u64 (c : Int), .int .u64 (d : Int)], .int .u64 (s : Int)] w (ShiftRet n s w) := by
  have H1 := two_blocks w (.cells #[.int .u64 (a : Int), .int .u64 (b : Int), .int .u64 (c : Int), .int .u64 (d : Int)] 59) (.cells #[.int .u64 0, .int .u64 0, .int .u64 0, .int .u64 0] 59)
  obtain ⟨W, hW⟩ : ∃ W, W = (w.alloc (.cells #[.int .u64 (a : Int), .int .u64 (b : Int), .int .u64 (c : Int), .int .u64 (d : Int)] 59)).alloc (.cells #[.int .u64 0, .int .u64 0, .int .u64 0, .int .u64 0] 59) := ⟨_, rfl⟩
  have E0 : Ext w W := by rw [hW]; exact (ext_alloc _ _).trans (ext_alloc _ _)
  rw [← hW] at H1
  obtain ⟨L, hL⟩ : ∃ L, L = [a, b, c, d] := ⟨_, rfl⟩
  have A0 : Arr W w.heap.size 59 L := by rw [hL]; exact H1.1
  have A1 : Arr W (w.heap.size + 1) 59 [0, 0, 0, 0] := H1.2
  have HL : Hid (L.length = 4) := by rw [hL]; exact rfl
  have VL : Hid (val L = n) := by rw [hL]; exact hn
  have HLL := hide hL
  rw [← hL] at hw
  have HW := hide hW
  clear hW H1 hL hn
  go_enter Tryd.func69, Tryd.ntmps69
  go_wp2_with fail
  rw [← HW.out]
  clear HW
  go_loopw [10, 6] (fun i t wr => ∃ (k c : Nat) (os : List Nat), i = .int .i64 k ∧ t = .int .u64 c ∧ k ≤ 4 ∧ Hid (UpRel L os s k c) ∧ W64 os ∧ Arr wr w.heap.size 59 os ∧ Upd w.heap.size W wr) (fun i _ _ => 4 - (intOf i).toNat)
  case atStart => exact ⟨0, 0, L, rfl, rfl, by omega, ⟨rfl, rfl, Nat.two_pow_pos _, by simp [val]⟩, hw, A0, Upd.refl _ _⟩
  case round =>
    obtain ⟨k, c', os, rfl, rfl, hk, HR, wo, hA, hU⟩ := hrel
    have HO : Hid (os.length = 4) := HR.out.1.trans HL.out
    by_cases hk4 : k < 4
    · have hkL : k < L.length := by rw [HL.out]; omega
      have hko : k < os.length := by rw [HO.out]; omega
      obtain ⟨x, hx⟩ : ∃ x, L[k] = x := ⟨_, rfl⟩
      have bx : x < 18446744073709551616 := by rw [← hx]; exact w64_get hw k hkL
      have hidx : ∀ w, (Instr.index 59 (.agg #[.int .u64 (a : Int), .int .u64 (b : Int), .int .u64 (c : Int), .int .u64 (d : Int)]) (.int .i64 (k : Int))).run Tryd.prog w = .ok (.int .u64 (x : Int)) w := by
        have e := HLL.out; subst e; exact idxRun a b c d k x hkL hx
      obtain ⟨l, t, z, z1, z2, z3, HZ⟩ := shl_parts x s c' hs bx HR.out.2.2.1
      have HS := hide (HR.out.step hkL hx HZ.out)
      have cg := hA.at k hko
      have fg := hA.free k
      have HA := hide (hA.set k z)
      have HU := hide (hU.set k (.int .u64 (z : Int)))
      have w2 := w64_set wo k z HZ.out.2.1
      clear hx hA hU
      go_wp2_with fail
      exact ⟨⟨k + 1, _, _, by go_num, rfl, by omega, HS, w2, HA.out, HU.out⟩, by simp [intOf]; omega⟩
    · obtain rfl : k = 4 := by omega
      have B1 := A1.upd hU (by omega)
      have E1 := hU.ext E0 (Nat.le_refl _)
      have H1 : Hid (val os + 18446744073709551616 ^ 4 * c' = n * 2 ^ s) := by
        obtain ⟨_, _, h3, h4⟩ := HR.out
        rw [List.take_of_length_le (by rw [HO.out]; omega), List.take_of_length_le (by rw [HL.out]; omega), VL.out] at h4
        exact h4
      obtain ⟨a1, b1, c1, d1, rfl⟩ := four_list HO.out
      obtain ⟨c0, c1', c2, c3, f0, f1, f2, f3⟩ := hA.four
      obtain ⟨d0, d1', d2, d3, g0, g1, g2, g3⟩ := B1.four
      clear hU hA B1
      go_wp2_with fail
      exact bodyPost_ret (v := .tuple #[.agg #[.int .u64 (a1 : Int), .int .u64 (b1 : Int), .int .u64 (c1 : Int), .int .u64 (d1 : Int)], .int .u64 (c' : Int)]) (by simp [results, Tryd.results69, go_sem, d0, d1', d2, d3]) rfl ⟨a1, b1, c1, d1, c', rfl, wo, by have h := H1.out; rw [p4] at h; exact h, HR.out.2.2.1, ext_four E1 (by omega) _ _ _ _⟩
end Go.Proofs.YtkhlhlldlikleaaDoor
