/- CRC-32C as arithmetic of 32 bits. No condition; nothing of the program. -/
import Derived.KernelRfl
namespace Go.Proofs.Ytdboaogdanahkaa
set_option linter.unusedVariables false
set_option linter.unusedSimpArgs false
def polyB : BitVec 32 := 2197175160#32
def stB (x : BitVec 32) : BitVec 32 := if x.getLsbD 0 = true then (x >>> 1) ^^^ polyB else x >>> 1
def itB : Nat → BitVec 32 → BitVec 32
  | 0, x => x
  | n + 1, x => itB n (stB x)
def elB (x : BitVec 32) : BitVec 32 := itB 8 x
def updB (c : BitVec 32) (b : Nat) : BitVec 32 := elB ((c ^^^ BitVec.ofNat 32 b) &&& 255#32) ^^^ (c >>> 8)
def runB (c : BitVec 32) (l : List Nat) : BitVec 32 := l.foldl updB c
def crcB (c : BitVec 32) (l : List Nat) : BitVec 32 := ~~~(runB (~~~c) l)
theorem itB_succ (n : Nat) (x : BitVec 32) : itB (n + 1) x = stB (itB n x) := by
  induction n generalizing x with
  | zero => rfl
  | succ n ih => show itB (n + 1) (stB x) = _; rw [ih]; rfl
theorem itB_add (n m : Nat) (x : BitVec 32) : itB (n + m) x = itB m (itB n x) := by
  induction n generalizing x with
  | zero => simp [itB]
  | succ n ih => rw [Nat.succ_add]; exact ih _
theorem stB_zero : stB 0#32 = 0#32 := by decide
theorem stB_xor (x y : BitVec 32) : stB (x ^^^ y) = stB x ^^^ stB y := by
  unfold stB
  rw [BitVec.getLsbD_xor, BitVec.ushiftRight_xor_distrib]
  cases hx : x.getLsbD 0 <;> cases hy : y.getLsbD 0
  · simp
  · simp [BitVec.xor_assoc]
  · simp; rw [BitVec.xor_assoc, BitVec.xor_comm (y >>> 1), BitVec.xor_assoc]
  · simp
    apply BitVec.eq_of_getLsbD_eq
    intro i hi
    simp only [BitVec.getLsbD_xor]
    cases (x >>> 1).getLsbD i <;> cases (y >>> 1).getLsbD i <;> cases polyB.getLsbD i <;> rfl
theorem itB_xor (n : Nat) (x y : BitVec 32) : itB n (x ^^^ y) = itB n x ^^^ itB n y := by
  induction n generalizing x y with
  | zero => rfl
  | succ n ih => show itB n (stB (x ^^^ y)) = _; rw [stB_xor, ih]; rfl
theorem itB_zero (n : Nat) : itB n 0#32 = 0#32 := by
  induction n with
  | zero => rfl
  | succ n ih => show itB n (stB 0#32) = _; rw [stB_zero, ih]
theorem runB_append (c : BitVec 32) (l m : List Nat) : runB c (l ++ m) = runB (runB c l) m := by
  unfold runB; rw [List.foldl_append]
theorem crcB_append (c : BitVec 32) (l m : List Nat) : crcB (crcB c l) m = crcB c (l ++ m) := by
  unfold crcB; rw [BitVec.not_not, runB_append]
/-- A step takes a bit away: low zero bits only shift. -/
theorem stB_low (x : BitVec 32) (h : x.getLsbD 0 = false) : stB x = x >>> 1 := by unfold stB; rw [h]; simp
theorem itB_low (n : Nat) (x : BitVec 32) (h : ∀ i, i < n → x.getLsbD i = false) : itB n x = x >>> n := by
  induction n generalizing x with
  | zero => simp [itB]
  | succ n ih =>
    show itB n (stB x) = _
    rw [stB_low x (h 0 (by omega)), ih, ← BitVec.shiftRight_add, Nat.add_comm]
    intro i hi
    rw [BitVec.getLsbD_ushiftRight]
    exact h (1 + i) (by omega)
/-- A byte at once is eight bits. -/
theorem updB_eq (c : BitVec 32) (b : Nat) (hb : b < 256) : updB c b = itB 8 (c ^^^ BitVec.ofNat 32 b) := by
  have hlow : ∀ (x : BitVec 32), itB 8 x = elB (x &&& 255#32) ^^^ (x >>> 8) := by
    intro x
    have e : x = (x &&& 255#32) ^^^ (x &&& ~~~255#32) := by
      apply BitVec.eq_of_getLsbD_eq
      intro i hi
      simp only [BitVec.getLsbD_xor, BitVec.getLsbD_and, BitVec.getLsbD_not]
      cases x.getLsbD i <;> cases (255#32).getLsbD i <;> simp [hi]
    have e2 : itB 8 (x &&& ~~~255#32) = x >>> 8 := by
      rw [itB_low]
      · apply BitVec.eq_of_getLsbD_eq
        intro i hi
        simp only [BitVec.getLsbD_ushiftRight, BitVec.getLsbD_and, BitVec.getLsbD_not]
        have : (255#32).getLsbD (8 + i) = false := by
          rw [BitVec.getLsbD_ofNat]
          have : Nat.testBit 255 (8 + i) = false := Nat.testBit_lt_two_pow (by
            have : 2 ^ 8 ≤ 2 ^ (8 + i) := Nat.pow_le_pow_right (by omega) (by omega)
            omega)
          simp [this]
        rw [this]
        by_cases h : 8 + i < 32
        · simp [h]
        · have : x.getLsbD (8 + i) = false := BitVec.getLsbD_of_ge x _ (by omega)
          simp [this]
      · intro i hi
        simp only [BitVec.getLsbD_and, BitVec.getLsbD_not]
        have : (255#32).getLsbD i = true := by
          have : i = 0 ∨ i = 1 ∨ i = 2 ∨ i = 3 ∨ i = 4 ∨ i = 5 ∨ i = 6 ∨ i = 7 := by omega
          rcases this with rfl | rfl | rfl | rfl | rfl | rfl | rfl | rfl <;> decide
        rw [this]; simp
    have e3 : itB 8 x = itB 8 ((x &&& 255#32) ^^^ (x &&& ~~~255#32)) := congrArg (itB 8) e
    rw [e3, itB_xor, e2]; rfl
  rw [hlow]
  unfold updB
  congr 1
  rw [BitVec.ushiftRight_xor_distrib]
  have : BitVec.ofNat 32 b >>> 8 = 0#32 := by
    apply BitVec.eq_of_toNat_eq
    rw [BitVec.toNat_ushiftRight, BitVec.toNat_ofNat, Nat.shiftRight_eq_div_pow]
    simp; omega
  rw [this, BitVec.xor_zero]
/-- The low byte. -/
theorem low_byte (c : BitVec 32) (b : Nat) (hb : b < 256) : ((c ^^^ BitVec.ofNat 32 b) &&& 255#32).toNat = (c.toNat % 256) ^^^ b := by
  rw [BitVec.toNat_and, BitVec.toNat_xor, BitVec.toNat_ofNat]
  have h255 : (255#32).toNat = 2 ^ 8 - 1 := rfl
  rw [h255, Nat.and_two_pow_sub_one_eq_mod, Nat.mod_eq_of_lt (by omega : b < 2 ^ 32), Nat.xor_mod_two_pow, Nat.mod_eq_of_lt (by omega : b < 2 ^ 8)]
/-- Steps lose nothing. -/
theorem stB_inj0 (x : BitVec 32) (h : stB x = 0#32) : x = 0#32 := by
  unfold stB at h
  by_cases h0 : x.getLsbD 0 = true
  · rw [if_pos h0] at h
    have := congrArg (fun y => y.getLsbD 31) h
    simp only [BitVec.getLsbD_xor, BitVec.getLsbD_ushiftRight] at this
    rw [BitVec.getLsbD_of_ge x (1 + 31) (by omega)] at this
    have d : ¬ ((false ^^ polyB.getLsbD 31) = (0#32).getLsbD 31) := by decide
    exact absurd this d
  · rw [if_neg h0] at h
    apply BitVec.eq_of_getLsbD_eq
    intro i hi
    rw [BitVec.getLsbD_zero]
    cases i with
    | zero => simpa using h0
    | succ i =>
      have := congrArg (fun y => y.getLsbD i) h
      simp only [BitVec.getLsbD_ushiftRight, BitVec.getLsbD_zero] at this
      rw [Nat.add_comm]; exact this
theorem itB_inj0 (n : Nat) (x : BitVec 32) (h : itB n x = 0#32) : x = 0#32 := by
  induction n generalizing x with
  | zero => exact h
  | succ n ih => exact stB_inj0 x (ih _ h)
end Go.Proofs.Ytdboaogdanahkaa
