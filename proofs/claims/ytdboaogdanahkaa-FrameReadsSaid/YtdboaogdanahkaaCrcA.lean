/- The program's and the reference's element of CRC-32C's table. No condition. -/
import Derived.Test.YtdboaogdanahkaaProg
import Derived.Test.YtdboaogdanahkaaCrc
import Derived.WalkSmall
import Derived.Deep.QuietTactic
import Derived.BigQuiet
import Derived.Deep.DeepCutAuto
namespace Go.Proofs.Ytdboaogdanahkaa
set_option linter.unusedVariables false
set_option linter.unusedSimpArgs false
open Go Go.RowKit
theorem hidC {p : Prop} (h : p) : Hid p := h
def B32 (x : BitVec 32) : Value := .int .u32 (x.toNat : Int)
def Ret32 (x : BitVec 32) (w : World) (e : Ending) (w' : World) : Prop := e = .returned (B32 x) ∧ w = w'
theorem ofInt32 (x : BitVec 32) : BitVec.ofInt 32 (x.toNat : Int) = x := by
  apply BitVec.eq_of_toNat_eq
  rw [BitVec.toNat_ofInt]; have := x.isLt; omega
theorem wrap_u32 (n : Nat) (h : n < 4294967296) : IntKind.u32.wrap (n : Int) = (n : Int) := by
  simp [IntKind.wrap, IntKind.bits, IntKind.signed]; omega
theorem xor32 (x y : BitVec 32) : bits .xor .u32 (x.toNat : Int) (y.toNat : Int) = ((x ^^^ y).toNat : Int) := by
  show IntKind.u32.wrap ((BitVec.ofInt 32 (x.toNat : Int) ^^^ BitVec.ofInt 32 (y.toNat : Int)).toNat : Int) = _
  rw [ofInt32, ofInt32]
  exact wrap_u32 _ (x ^^^ y).isLt
theorem half32 (x : BitVec 32) : (x.toNat : Int) / (2 : Int) = ((x >>> 1).toNat : Int) := by
  rw [BitVec.toNat_ushiftRight, Nat.shiftRight_eq_div_pow]; omega
theorem odd32 (x : BitVec 32) : x.getLsbD 0 = decide (x.toNat % 2 = 1) := by
  rw [BitVec.getLsbD, Nat.testBit_zero]
theorem step_odd (x : BitVec 32) (h : x.toNat % 2 = 1) : bits .xor .u32 ((x.toNat : Int) / (2 : Int)) 2197175160 = ((stB x).toNat : Int) := by
  rw [half32]
  have := xor32 (x >>> 1) polyB
  have e : ((polyB).toNat : Int) = 2197175160 := by decide
  rw [e] at this
  rw [this]
  unfold stB
  rw [if_pos (by rw [odd32]; simp [h])]
theorem step_even (x : BitVec 32) (h : x.toNat % 2 = 0) : (x.toNat : Int) / (2 : Int) = ((stB x).toNat : Int) := by
  rw [half32]
  unfold stB
  rw [if_neg (by rw [odd32]; simp [h])]
set_option maxHeartbeats 400000 in
theorem p_element (x : BitVec 32) (w : World) : Calls Try.prog 104 #[B32 x] w (Ret32 (elB x) w) := by
  unfold B32
  go_enter Try.func104, Try.ntmps104
  go_wp2_with fail
  go_loop [0, 4] (fun t i => ∃ k : Nat, k ≤ 8 ∧ i = .int .i64 k ∧ t = B32 (itB k x)) (fun _ i => 8 - (intOf i).toNat)
  case atStart => exact ⟨0, by omega, rfl, rfl⟩
  case round =>
    obtain ⟨k, hk, rfl, rfl⟩ := hrel
    obtain ⟨y, hy⟩ : ∃ y, itB k x = y := ⟨_, rfl⟩
    rw [hy]
    have Hy := hidC hy
    clear hy
    unfold B32
    have hb := y.isLt
    by_cases hlt : k < 8
    · rcases Nat.mod_two_eq_zero_or_one y.toNat with h | h
      · have e := hidC (step_even y h)
        have o : (((y.toNat : Int) % 2) == 1) = false := beq_eq_false_iff_ne.2 (by omega)
        go_wp2_with fail
        go_round
        case rel => exact ⟨k + 1, by omega, by go_num, by rw [itB_succ, Hy.out, ← e.out]⟩
        case measure => simp [intOf]; omega
      · have e := hidC (step_odd y h)
        have o : (((y.toNat : Int) % 2) == 1) = true := beq_iff_eq.2 (by omega)
        go_wp2_with fail
        go_round
        case rel => exact ⟨k + 1, by omega, by go_num, by rw [itB_succ, Hy.out, ← e.out]⟩
        case measure => simp [intOf]; omega
    · obtain rfl : k = 8 := by omega
      go_wp2_with fail
      go_ret
      exact ⟨congrArg (fun z => Ending.returned (B32 z)) Hy.out.symm, rfl⟩
theorem and_one32 (x : BitVec 32) : bits .and .u32 (x.toNat : Int) 1 = (x.toNat : Int) % 2 := by
  show IntKind.u32.wrap ((BitVec.ofInt 32 (x.toNat : Int) &&& BitVec.ofInt 32 1).toNat : Int) = _
  rw [ofInt32, BitVec.toNat_and]
  have e : (BitVec.ofInt 32 1).toNat = 1 := by decide
  rw [e, Nat.and_one_is_mod, wrap_u32 _ (by omega)]
  omega
set_option maxHeartbeats 400000 in
theorem r_element (x : BitVec 32) (w : World) : Calls Try.prog 98 #[B32 x] w (Ret32 (elB x) w) := by
  unfold B32
  go_enter Try.func98, Try.ntmps98
  go_wp2_with fail
  go_loop [0, 3] (fun t i => ∃ k : Nat, k ≤ 8 ∧ i = .int .i64 k ∧ t = B32 (itB k x)) (fun _ i => 8 - (intOf i).toNat)
  case atStart => exact ⟨0, by omega, rfl, rfl⟩
  case round =>
    obtain ⟨k, hk, rfl, rfl⟩ := hrel
    obtain ⟨y, hy⟩ : ∃ y, itB k x = y := ⟨_, rfl⟩
    rw [hy]
    have Hy := hidC hy
    clear hy
    unfold B32
    have hb := y.isLt
    by_cases hlt : k < 8
    · rcases Nat.mod_two_eq_zero_or_one y.toNat with h | h
      · have e := hidC (step_even y h)
        have o : (bits .and .u32 (y.toNat : Int) 1 == 1) = false := by rw [and_one32]; exact beq_eq_false_iff_ne.2 (by omega)
        go_wp2_with fail
        go_round
        case rel => exact ⟨k + 1, by omega, by go_num, by rw [itB_succ, Hy.out, ← e.out]⟩
        case measure => simp [intOf]; omega
      · have e := hidC (step_odd y h)
        have o : (bits .and .u32 (y.toNat : Int) 1 == 1) = true := by rw [and_one32]; exact beq_iff_eq.2 (by omega)
        go_wp2_with fail
        go_round
        case rel => exact ⟨k + 1, by omega, by go_num, by rw [itB_succ, Hy.out, ← e.out]⟩
        case measure => simp [intOf]; omega
    · obtain rfl : k = 8 := by omega
      go_wp2_with fail
      go_ret
      exact ⟨congrArg (fun z => Ending.returned (B32 z)) Hy.out.symm, rfl⟩
end Go.Proofs.Ytdboaogdanahkaa
