/- CRC-32C finds bursts of 32 bits. No condition; nothing of the program beyond the definitions. -/
import Derived.Test.YtjmigglibidbdaaCrc1
namespace Go.Proofs.Ytjmigglibidbdaa
set_option linter.unusedVariables false
set_option linter.unusedSimpArgs false
def b1 (v : Nat) : BitVec 32 := BitVec.ofNat 32 (v % 2)
/-- n bits of v, the least significant one first. -/
def runN : Nat → BitVec 32 → Nat → BitVec 32
  | 0, s, _ => s
  | n + 1, s, v => runN n (stB (s ^^^ b1 v)) (v / 2)
theorem ofNat_xor' (a b : Nat) : BitVec.ofNat 32 (a ^^^ b) = BitVec.ofNat 32 a ^^^ BitVec.ofNat 32 b := by
  apply BitVec.eq_of_getLsbD_eq
  intro i hi
  simp [BitVec.getLsbD_ofNat, Nat.testBit_xor, hi]
theorem b1_xor (u v : Nat) : b1 (u ^^^ v) = b1 u ^^^ b1 v := by
  unfold b1
  rw [← ofNat_xor']
  congr 1
  have := Nat.xor_mod_two_pow (a := u) (b := v) (n := 1)
  simpa using this
theorem ofNat_split (v : Nat) : BitVec.ofNat 32 v = b1 v ^^^ BitVec.ofNat 32 (2 * (v / 2)) := by
  unfold b1
  rw [← ofNat_xor']
  congr 1
  apply Nat.eq_of_testBit_eq
  intro i
  rw [Nat.testBit_xor]
  cases i with
  | zero => simp [Nat.testBit_zero]
  | succ i =>
    rw [Nat.testBit_succ, Nat.testBit_succ, Nat.testBit_succ]
    have e1 : v % 2 / 2 = 0 := by omega
    have e2 : 2 * (v / 2) / 2 = v / 2 := by omega
    rw [e1, e2]; simp
theorem stB_double (v : Nat) (h : 2 * v < 4294967296) : stB (BitVec.ofNat 32 (2 * v)) = BitVec.ofNat 32 v := by
  rw [stB_low]
  · apply BitVec.eq_of_toNat_eq
    rw [BitVec.toNat_ushiftRight, BitVec.toNat_ofNat, BitVec.toNat_ofNat, Nat.shiftRight_eq_div_pow]
    omega
  · rw [BitVec.getLsbD_ofNat]; simp
theorem runN_eq : ∀ (n : Nat) (s : BitVec 32) (v : Nat), v < 2 ^ n → v < 4294967296 → runN n s v = itB n (s ^^^ BitVec.ofNat 32 v)
  | 0, s, v, h, _ => by
    have : v = 0 := by simpa using h
    subst this
    simp [runN, itB]
  | n + 1, s, v, h, h2 => by
    show runN n (stB (s ^^^ b1 v)) (v / 2) = itB n (stB (s ^^^ BitVec.ofNat 32 v))
    rw [runN_eq n _ (v / 2) (by rw [Nat.pow_succ] at h; omega) (by omega), ofNat_split v, ← BitVec.xor_assoc, stB_xor (s ^^^ b1 v), stB_double _ (by omega)]
theorem runN_xor : ∀ (n : Nat) (s t : BitVec 32) (u v : Nat), runN n (s ^^^ t) (u ^^^ v) = runN n s u ^^^ runN n t v
  | 0, s, t, u, v => rfl
  | n + 1, s, t, u, v => by
    show runN n (stB (s ^^^ t ^^^ b1 (u ^^^ v))) ((u ^^^ v) / 2) = _
    have e : s ^^^ t ^^^ b1 (u ^^^ v) = (s ^^^ b1 u) ^^^ (t ^^^ b1 v) := by
      rw [b1_xor]
      apply BitVec.eq_of_getLsbD_eq
      intro i hi
      simp only [BitVec.getLsbD_xor]
      cases s.getLsbD i <;> cases t.getLsbD i <;> cases (b1 u).getLsbD i <;> cases (b1 v).getLsbD i <;> rfl
    have e2 : (u ^^^ v) / 2 = (u / 2) ^^^ (v / 2) := by
      have := Nat.xor_div_two_pow (a := u) (b := v) (n := 1)
      simpa using this
    rw [e, stB_xor, e2, runN_xor n]
    rfl
theorem runN_add : ∀ (n m : Nat) (s : BitVec 32) (v : Nat), runN (n + m) s v = runN m (runN n s v) (v / 2 ^ n)
  | 0, m, s, v => by simp [runN]
  | n + 1, m, s, v => by
    rw [Nat.succ_add]
    show runN (n + m) (stB (s ^^^ b1 v)) (v / 2) = runN m (runN n (stB (s ^^^ b1 v)) (v / 2)) (v / 2 ^ (n + 1))
    rw [runN_add n m, Nat.div_div_eq_div_mul, Nat.pow_succ, Nat.mul_comm 2]
theorem runN_zero : ∀ (n v : Nat), v % 2 ^ n = 0 → runN n 0#32 v = 0#32
  | 0, _, _ => rfl
  | n + 1, v, h => by
    show runN n (stB (0#32 ^^^ b1 v)) (v / 2) = 0#32
    have h2 : v % 2 = 0 := by
      have : v % 2 ^ (n + 1) % 2 = v % 2 := Nat.mod_mod_of_dvd _ ⟨2 ^ n, by rw [Nat.pow_succ, Nat.mul_comm]⟩
      omega
    have e : b1 v = 0#32 := by unfold b1; rw [h2]
    rw [e]
    have e3 : stB (0#32 ^^^ 0#32) = 0#32 := by decide
    rw [e3]
    apply runN_zero n
    rw [Nat.pow_succ, Nat.mul_comm] at h
    have := Nat.mod_mul_right_div_self v 2 (2 ^ n)
    rw [h] at this
    omega
theorem runN_low : ∀ (n : Nat) (s : BitVec 32) (b V : Nat), runN n s b = runN n s (b + 2 ^ n * V)
  | 0, _, _, _ => rfl
  | n + 1, s, b, V => by
    show runN n (stB (s ^^^ b1 b)) (b / 2) = runN n (stB (s ^^^ b1 (b + 2 ^ (n + 1) * V))) ((b + 2 ^ (n + 1) * V) / 2)
    have e1 : b1 (b + 2 ^ (n + 1) * V) = b1 b := by
      unfold b1
      rw [Nat.pow_succ, Nat.mul_comm (2 ^ n) 2, Nat.mul_assoc, Nat.add_mul_mod_self_left]
    have e2 : (b + 2 ^ (n + 1) * V) / 2 = b / 2 + 2 ^ n * V := by
      rw [Nat.pow_succ, Nat.mul_comm (2 ^ n) 2, Nat.mul_assoc, Nat.add_mul_div_left _ _ (by omega)]
    rw [e1, e2]
    exact runN_low n _ _ V
theorem runB_runN : ∀ (l : List Nat) (s : BitVec 32), IsB l → runB s l = runN (8 * l.length) s (valLE l)
  | [], _, _ => rfl
  | b :: l, s, h => by
    have hb := h b List.mem_cons_self
    show runB (updB s b) l = runN (8 * (l.length + 1)) s (b + 256 * valLE l)
    rw [runB_runN l _ (fun x hx => h x (List.mem_cons_of_mem _ hx)), Nat.mul_add, Nat.add_comm (8 * l.length), show 8 * 1 = 8 from rfl, runN_add 8]
    have e1 : (b + 256 * valLE l) / 2 ^ 8 = valLE l := by omega
    rw [e1]
    congr 1
    rw [updB_eq _ _ hb, ← runN_eq 8 s b (by omega) (by omega)]
    exact runN_low 8 s b (valLE l)
theorem itB_inj (n : Nat) {x y : BitVec 32} (h : itB n x = itB n y) : x = y := by
  have : itB n (x ^^^ y) = 0#32 := by rw [itB_xor, h, BitVec.xor_self]
  have := itB_inj0 n _ this
  apply BitVec.eq_of_getLsbD_eq
  intro i hi
  have e := congrArg (fun z => z.getLsbD i) this
  simp only [BitVec.getLsbD_xor, BitVec.getLsbD_zero] at e
  revert e
  cases x.getLsbD i <;> cases y.getLsbD i <;> simp
theorem valLE_cons (b : Nat) (l : List Nat) (h : b < 256) : valLE (b :: l) = b ^^^ (valLE l <<< 8) := by
  show b + 256 * valLE l = _
  apply Nat.eq_of_testBit_eq
  intro j
  have := Nat.testBit_two_pow_mul_add (valLE l) (i := 8) (b := b) (by omega) j
  rw [show b + 256 * valLE l = 2 ^ 8 * valLE l + b by omega, this, Nat.testBit_xor, Nat.testBit_shiftLeft]
  by_cases hj : j < 8
  · simp [hj, show ¬ 8 ≤ j by omega]
  · have hb : Nat.testBit b j = false := Nat.testBit_lt_two_pow (by
      have : 2 ^ 8 ≤ 2 ^ j := Nat.pow_le_pow_right (by omega) (by omega)
      omega)
    simp [hj, show 8 ≤ j by omega, hb]
/-- The bit p inverted. -/
def flip (m : List Nat) (p : Nat) : List Nat := m.set (p / 8) (m.getD (p / 8) 0 ^^^ 2 ^ (p % 8))
theorem flip_len (m : List Nat) (p : Nat) : (flip m p).length = m.length := by simp [flip]
theorem flip_b {m : List Nat} (h : IsB m) (p : Nat) : IsB (flip m p) := by
  intro x hx
  rcases List.mem_or_eq_of_mem_set hx with hx | hx
  · exact h x hx
  · rw [hx]
    have : 2 ^ (p % 8) < 2 ^ 8 := Nat.pow_lt_pow_right (by omega) (by omega)
    exact Nat.xor_lt_two_pow (n := 8) (h.get _) this
theorem valLE_flip : ∀ (m : List Nat) (p : Nat), IsB m → p < 8 * m.length → valLE (flip m p) = valLE m ^^^ 2 ^ p
  | [], p, _, h => by simp at h
  | b :: m, p, hb, h => by
    have h1 := hb b List.mem_cons_self
    have h2 : IsB m := fun x hx => hb x (List.mem_cons_of_mem _ hx)
    by_cases hp : p < 8
    · have e : p / 8 = 0 := by omega
      have e2 : p % 8 = p := by omega
      unfold flip
      rw [e, e2]
      have h3 : b ^^^ 2 ^ p < 256 := by
        have : 2 ^ p < 2 ^ 8 := Nat.pow_lt_pow_right (by omega) (by omega)
        exact Nat.xor_lt_two_pow (n := 8) h1 this
      show valLE ((b ^^^ 2 ^ p) :: m) = _
      rw [valLE_cons _ _ h3, valLE_cons _ _ h1, Nat.xor_assoc, Nat.xor_comm (2 ^ p), ← Nat.xor_assoc]
    · have e : p / 8 = (p - 8) / 8 + 1 := by omega
      have e2 : p % 8 = (p - 8) % 8 := by omega
      have ih := valLE_flip m (p - 8) h2 (by simp at h; omega)
      unfold flip at ih ⊢
      rw [e, e2, List.set_cons_succ, List.getD_cons_succ, valLE_cons _ _ h1, ih, valLE_cons _ _ h1, Nat.shiftLeft_xor_distrib, ← Nat.xor_assoc]
      congr 1
      rw [Nat.shiftLeft_eq, ← Nat.pow_add]
      congr 1
      omega
theorem chk_run {m : List Nat} (hb : IsB m) (h : 4 ≤ m.length) : chk m = decide (runN (8 * m.length) (~~~0#32) (valLE m) = itB 32 (~~~0#32)) := by
  obtain ⟨k, hk⟩ : ∃ k, m.length = k + 4 := ⟨m.length - 4, by omega⟩
  have hc : chk m = decide (m.drop k = tailL (crcB 0#32 (m.take k))) := by
    unfold chk; rw [decide_eq_true (by omega), hk]; simp
  rw [hc, ← runB_runN m _ hb]
  have hm : runB (~~~0#32) m = runB (runB (~~~0#32) (m.take k)) (m.drop k) := by rw [← runB_append, List.take_append_drop]
  have hdl : (m.drop k).length = 4 := by rw [List.length_drop]; omega
  have hdb : IsB (m.drop k) := hb.drop k
  have hv := valLE_lt (m.drop k) hdb
  rw [hdl] at hv
  have hv : valLE (m.drop k) < 4294967296 := hv
  rw [hm, runB_runN _ _ hdb, hdl, runN_eq _ _ _ hv hv]
  unfold crcB
  obtain ⟨s, hs⟩ : ∃ s, runB (~~~0#32) (m.take k) = s := ⟨_, rfl⟩
  rw [hs]
  by_cases e : m.drop k = tailL (~~~s)
  · rw [decide_eq_true e, e, valLE_tail]
    symm
    rw [decide_eq_true_eq]
    congr 1
    have : BitVec.ofNat 32 (~~~s).toNat = ~~~s := by
      apply BitVec.eq_of_toNat_eq
      rw [BitVec.toNat_ofNat]; have := (~~~s).isLt; omega
    rw [this]
    apply BitVec.eq_of_getLsbD_eq
    intro i hi
    simp only [BitVec.getLsbD_xor, BitVec.getLsbD_not, BitVec.getLsbD_zero]
    cases s.getLsbD i <;> simp [hi]
  · rw [decide_eq_false e]
    symm
    rw [decide_eq_false_iff_not]
    intro h2
    apply e
    have h3 := itB_inj _ h2
    refine valLE_inj _ _ hdb (tailL_b _) (by rw [hdl]; rfl) ?_
    rw [valLE_tail]
    have h4 : BitVec.ofNat 32 (valLE (m.drop k)) = ~~~s := by
      apply BitVec.eq_of_getLsbD_eq
      intro i hi
      have e := congrArg (fun z => z.getLsbD i) h3
      simp only [BitVec.getLsbD_xor, BitVec.getLsbD_not, BitVec.getLsbD_zero] at e
      rw [BitVec.getLsbD_not]
      revert e
      cases s.getLsbD i <;> cases (BitVec.ofNat 32 (valLE (m.drop k))).getLsbD i <;> simp [hi]
    rw [← h4, BitVec.toNat_ofNat]; omega
theorem burst {m m' : List Nat} (hb : IsB m) (hb' : IsB m') (hl : m'.length = m.length) (h4 : 4 ≤ m.length) (hc : chk m = true) (P at_ K : Nat) (hP : P < 2 ^ K) (hK : K ≤ 32) (hat : at_ + K ≤ 8 * m.length) (hv : valLE m' = valLE m ^^^ (P <<< at_)) : chk m' = !decide (P ≠ 0) := by
  rw [chk_run hb h4] at hc
  rw [chk_run hb' (by omega), hl, hv]
  have h0 := of_decide_eq_true hc
  have e0 : (~~~0#32 : BitVec 32) = ~~~0#32 ^^^ 0#32 := by decide
  have e1 : runN (8 * m.length) (~~~0#32) (valLE m ^^^ (P <<< at_)) = itB 32 (~~~0#32) ^^^ runN (8 * m.length) 0#32 (P <<< at_) := by
    have := runN_xor (8 * m.length) (~~~0#32) 0#32 (valLE m) (P <<< at_)
    rw [← e0, h0] at this
    exact this
  have hP32 : P < 4294967296 := by
    have : 2 ^ K ≤ 2 ^ 32 := Nat.pow_le_pow_right (by omega) hK
    omega
  have e2 : runN (8 * m.length) 0#32 (P <<< at_) = itB (8 * m.length - at_) (BitVec.ofNat 32 P) := by
    obtain ⟨r, hr⟩ : ∃ r, 8 * m.length = at_ + r := ⟨8 * m.length - at_, by omega⟩
    rw [hr, runN_add, runN_zero at_ _ (by rw [Nat.shiftLeft_eq]; simp), Nat.shiftLeft_eq, Nat.mul_div_cancel _ (Nat.two_pow_pos at_)]
    have hr2 : P < 2 ^ r := by
      have : 2 ^ K ≤ 2 ^ r := Nat.pow_le_pow_right (by omega) (by omega)
      omega
    rw [runN_eq r _ P hr2 hP32, Nat.add_sub_cancel_left, BitVec.zero_xor]
  rw [e1, e2]
  by_cases hz : P = 0
  · subst hz
    have : itB (8 * m.length - at_) (BitVec.ofNat 32 0) = 0#32 := itB_zero _
    rw [this, BitVec.xor_zero]; simp
  · have hne : itB (8 * m.length - at_) (BitVec.ofNat 32 P) ≠ 0#32 := fun e => by
      have := itB_inj0 _ _ e
      have := congrArg BitVec.toNat this
      rw [BitVec.toNat_ofNat] at this
      simp at this
      omega
    rw [decide_eq_true (show P ≠ 0 from hz)]
    rw [decide_eq_false]
    · rfl
    · intro e
      apply hne
      apply BitVec.eq_of_getLsbD_eq
      intro i hi
      have e := congrArg (fun z => z.getLsbD i) e
      simp only [BitVec.getLsbD_xor] at e
      rw [BitVec.getLsbD_zero]
      revert e
      cases (itB 32 (~~~0#32)).getLsbD i <;> cases (itB (8 * m.length - at_) (BitVec.ofNat 32 P)).getLsbD i <;> simp
end Go.Proofs.Ytjmigglibidbdaa
