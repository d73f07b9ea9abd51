/- Numbers of equal width in one number: pure lists. No condition. -/
import Derived.Test.YtjmigglibidbdaaByA
import Derived.Lib.BitFns
namespace Go.Proofs.Ytjmigglibidbdaa
set_option linter.unusedVariables false
set_option linter.unusedSimpArgs false
open Go Go.RowKit
/-- n numbers of w bits each, cut from N. -/
def upN (N n w : Nat) : List Nat := (List.range n).map fun i => (N >>> (i * w)) % 2 ^ w
/-- Numbers of w bits each, one behind the other. -/
def pkN : List Nat → Nat → Nat
  | [], _ => 0
  | x :: l, w => x + 2 ^ w * pkN l w
def Fit (l : List Nat) (w : Nat) : Prop := ∀ x ∈ l, x < 2 ^ w
theorem upN_len (N n w : Nat) : (upN N n w).length = n := by simp [upN]
theorem upN_get {N n w k : Nat} (h : k < n) : (upN N n w).getD k 0 = (N >>> (k * w)) % 2 ^ w := by simp [upN, List.getD_eq_getElem?_getD, h]
theorem upN_fit (N n w : Nat) : Fit (upN N n w) w := by
  intro x hx
  simp only [upN, List.mem_map] at hx
  obtain ⟨i, _, rfl⟩ := hx
  exact Nat.mod_lt _ (Nat.two_pow_pos w)
theorem upN_succ (N n w : Nat) : upN N (n + 1) w = N % 2 ^ w :: upN (N >>> w) n w := by
  simp only [upN, List.range_succ_eq_map, List.map_cons, List.map_map, Nat.zero_mul, Nat.shiftRight_zero]
  congr 1
  apply List.map_congr_left
  intro i _
  simp only [Function.comp]
  rw [← Nat.shiftRight_add, show i.succ * w = w + i * w by rw [Nat.succ_mul]; omega]
theorem pk_up (N n w : Nat) : pkN (upN N n w) w = N % 2 ^ (n * w) := by
  induction n generalizing N with
  | zero => simp [upN, pkN, Nat.mod_one]
  | succ n ih =>
    rw [upN_succ, pkN, ih, Nat.shiftRight_eq_div_pow, show (n + 1) * w = w + n * w by rw [Nat.succ_mul]; omega, Nat.pow_add, Nat.mod_mul]
theorem Fit.tail {x : Nat} {l : List Nat} {w : Nat} (h : Fit (x :: l) w) : Fit l w := fun y hy => h y (List.mem_cons_of_mem _ hy)
theorem pk_lt : ∀ {l : List Nat} {w : Nat}, Fit l w → pkN l w < 2 ^ (l.length * w)
  | [], w, _ => by simp [pkN]
  | x :: l, w, h => by
    have h1 := pk_lt h.tail
    have h2 : x < 2 ^ w := h x (List.mem_cons_self ..)
    rw [pkN, List.length_cons, show (l.length + 1) * w = w + l.length * w by rw [Nat.succ_mul]; omega, Nat.pow_add]
    have h3 : 2 ^ w * (pkN l w + 1) ≤ 2 ^ w * 2 ^ (l.length * w) := Nat.mul_le_mul_left _ h1
    rw [Nat.mul_add] at h3
    omega
theorem up_pk : ∀ {l : List Nat} {w : Nat}, Fit l w → upN (pkN l w) l.length w = l
  | [], _, _ => rfl
  | x :: l, w, h => by
    have h2 : x < 2 ^ w := h x (List.mem_cons_self ..)
    rw [List.length_cons, upN_succ, pkN, Nat.shiftRight_eq_div_pow, Nat.add_mul_mod_self_left, Nat.mod_eq_of_lt h2, Nat.add_mul_div_left _ _ (Nat.two_pow_pos w), Nat.div_eq_of_lt h2, Nat.zero_add, up_pk h.tail]
theorem pk_snoc (l : List Nat) (x w : Nat) : pkN (l ++ [x]) w = pkN l w + x * 2 ^ (l.length * w) := by
  induction l with
  | nil => simp [pkN]
  | cons y l ih =>
    rw [List.cons_append, pkN, pkN, ih, List.length_cons, show (l.length + 1) * w = w + l.length * w by rw [Nat.succ_mul]; omega, Nat.pow_add, Nat.mul_add, Nat.mul_left_comm]
    omega
theorem pk_or {l : List Nat} {w : Nat} (h : Fit l w) (x : Nat) : pkN (l ++ [x]) w = pkN l w ||| x <<< (l.length * w) := by
  have := Nat.shiftLeft_add_eq_or_of_lt (pk_lt h) x
  rw [pk_snoc, Nat.or_comm, ← this, Nat.shiftLeft_eq]
  omega
theorem up_or {N n w k x : Nat} (hk : k < n) (hx : x < 2 ^ w) : (upN N n w).set k ((upN N n w).getD k 0 ||| x) = upN (N ||| x <<< (k * w)) n w := by
  apply List.ext_getElem
  · simp [upN]
  · intro j h1 h2
    simp only [upN_len] at h2
    have hz : ∀ b, w ≤ b → x.testBit b = false := fun b hb => Nat.testBit_lt_two_pow (Nat.lt_of_lt_of_le hx (Nat.pow_le_pow_right (by omega) hb))
    rw [List.getElem_set]
    split
    · rename_i e
      subst e
      rw [upN_get hk]
      simp only [upN, List.getElem_map, List.getElem_range]
      apply Nat.eq_of_testBit_eq
      intro b
      simp only [Nat.testBit_or, Nat.testBit_mod_two_pow, Nat.testBit_shiftRight, Nat.testBit_shiftLeft, Nat.add_sub_cancel_left, ge_iff_le, Nat.le_add_right, decide_true, Bool.true_and]
      by_cases hb : b < w
      · simp [hb]
      · simp [hb, hz b (by omega)]
    · rename_i e
      simp only [upN, List.getElem_map, List.getElem_range]
      apply Nat.eq_of_testBit_eq
      intro b
      simp only [Nat.testBit_or, Nat.testBit_mod_two_pow, Nat.testBit_shiftRight, Nat.testBit_shiftLeft]
      by_cases hb : b < w
      · have hq : (decide (k * w ≤ j * w + b) && x.testBit (j * w + b - k * w)) = false := by
          by_cases hjk : j < k
          · have : (j + 1) * w ≤ k * w := Nat.mul_le_mul_right _ hjk
            rw [Nat.succ_mul] at this
            rw [decide_eq_false (by omega)]; rfl
          · have : (k + 1) * w ≤ j * w := Nat.mul_le_mul_right _ (by omega)
            rw [Nat.succ_mul] at this
            rw [hz _ (by omega), Bool.and_false]
        simp only [ge_iff_le]
        rw [hq, Bool.or_false]
      · simp [hb]
theorem up_eq (N M n w : Nat) : upN N n w = upN M n w ↔ N % 2 ^ (n * w) = M % 2 ^ (n * w) := by
  constructor
  · intro h
    rw [← pk_up, ← pk_up, h]
  · intro h
    have h1 := up_pk (upN_fit N n w)
    have h2 := up_pk (upN_fit M n w)
    rw [pk_up, upN_len] at h1 h2
    rw [← h1, ← h2, h]
/-- A list cut from its own number. -/
theorem up_self {l : List Nat} {w n : Nat} (h : Fit l w) (hn : l.length = n) : l = upN (pkN l w) n w := by rw [← hn, up_pk h]
theorem fit_b (l : List Nat) : IsB l ↔ Fit l 8 := Iff.rfl
/-- One bit more. -/
theorem mod_or (N at_ : Nat) : N % 2 ^ (at_ + 1) = N % 2 ^ at_ ||| (N >>> at_ % 2) <<< at_ := by
  have := Nat.shiftLeft_add_eq_or_of_lt (Nat.mod_lt N (Nat.two_pow_pos at_)) (N >>> at_ % 2)
  rw [Nat.or_comm, ← this, Nat.shiftLeft_eq, Nat.shiftRight_eq_div_pow, Nat.pow_succ, Nat.mod_mul]
  rw [Nat.mul_comm]; omega
/-- A bit of a list that is cut from N. -/
theorem up_bit {N n w k r : Nat} (hk : k < n) (hr : r < w) : (upN N n w).getD k 0 >>> r % 2 = N >>> (k * w + r) % 2 := by
  rw [upN_get hk]
  have h1 : ∀ y s : Nat, (y >>> s % 2) = (y.testBit s).toNat := fun y s => (Nat.toNat_testBit y s).symm ▸ by rw [Nat.shiftRight_eq_div_pow]
  rw [h1, h1]
  simp [Nat.testBit_mod_two_pow, Nat.testBit_shiftRight, hr]
/-- All bits of a list's numbers. -/
def orl : List Nat → Nat
  | [] => 0
  | x :: l => x ||| orl l
/-- The least width. -/
def wdt (l : List Nat) : Nat := Lib.bitLen (orl l)
theorem or_lt {x y w : Nat} : (x ||| y) < 2 ^ w ↔ x < 2 ^ w ∧ y < 2 ^ w := by
  constructor
  · intro h
    exact ⟨Nat.lt_of_le_of_lt Nat.left_le_or h, Nat.lt_of_le_of_lt Nat.right_le_or h⟩
  · rintro ⟨h1, h2⟩
    exact Nat.or_lt_two_pow h1 h2
theorem orl_lt (l : List Nat) (w : Nat) : orl l < 2 ^ w ↔ Fit l w := by
  induction l with
  | nil => simp [orl, Fit, Nat.two_pow_pos]
  | cons x l ih =>
    rw [orl, or_lt, ih]
    constructor
    · rintro ⟨h1, h2⟩ y hy
      rcases List.mem_cons.1 hy with rfl | hy
      · exact h1
      · exact h2 y hy
    · intro h
      exact ⟨h x (List.mem_cons_self ..), h.tail⟩
theorem orl_snoc (l : List Nat) (x : Nat) : orl (l ++ [x]) = orl l ||| x := by
  induction l with
  | nil => simp [orl]
  | cons y l ih => rw [List.cons_append, orl, orl, ih, Nat.or_assoc]
theorem lt_bitLenAux : ∀ (f x : Nat), x < 2 ^ f → x < 2 ^ Lib.bitLenAux f x
  | 0, x, h => by simpa [Lib.bitLenAux] using h
  | f + 1, x, h => by
    simp only [Lib.bitLenAux]
    split
    · rename_i h0; subst h0; simp
    · have := lt_bitLenAux f (x / 2) (by rw [Nat.pow_succ] at h; omega)
      rw [Nat.add_comm, Nat.pow_succ]; omega
theorem bl_iff {x : Nat} (w : Nat) (h : x < 2 ^ 64) : x < 2 ^ w ↔ Lib.bitLen x ≤ w := by
  constructor
  · intro hx
    rcases Nat.lt_or_ge 64 w with hw | hw
    · exact Nat.le_trans (Lib.bitLen_le x 64 (by omega) h) (by omega)
    · exact Lib.bitLen_le x w hw hx
  · intro hw
    exact Nat.lt_of_lt_of_le (lt_bitLenAux 64 x h) (Nat.pow_le_pow_right (by omega) hw)
def IsQ (l : List Nat) : Prop := ∀ x ∈ l, x < 18446744073709551616
theorem isq_fit (l : List Nat) : IsQ l ↔ Fit l 64 := Iff.rfl
theorem wdt_iff {l : List Nat} (h : IsQ l) (w : Nat) : Fit l w ↔ wdt l ≤ w := by
  rw [← orl_lt]
  exact bl_iff w ((orl_lt l 64).2 h)
theorem wdt_le {l : List Nat} (h : IsQ l) : wdt l ≤ 64 := (wdt_iff h 64).1 h
theorem Fit.isq {l : List Nat} {w : Nat} (h : Fit l w) (hw : w ≤ 64) : IsQ l := fun x hx => Nat.lt_of_lt_of_le (h x hx) (Nat.pow_le_pow_right (n := 2) (by omega) hw)
/-- How many bytes n packed numbers take, if there are such. -/
def siz (n w : Int) : Int := if n < 0 ∨ 65536 < n ∨ w < 0 ∨ 64 < w then -1 else (n * w + 7) / 8
/-- What Pack returns. -/
def pkR (l : List Nat) (w : Int) : Option (List Nat) := if w < 0 ∨ 64 < w ∨ 65536 < l.length ∨ w < wdt l then none else some (upN (pkN l w.toNat) ((l.length * w.toNat + 7) / 8) 8)
/-- What Unpack returns. -/
def upR (b : List Nat) (n w : Int) : Option (List Nat) := if n < 0 ∨ 65536 < n ∨ w < 0 ∨ 64 < w ∨ b.length ≠ (n.toNat * w.toNat + 7) / 8 ∨ 2 ^ (n.toNat * w.toNat) ≤ pkN b 8 then none else some (upN (pkN b 8) n.toNat w.toNat)
theorem up_back {b : List Nat} {n w : Nat} (hb : IsB b) (hl : b.length = (n * w + 7) / 8) : upN (pkN (upN (pkN b 8) n w) w) ((n * w + 7) / 8) 8 = b ↔ pkN b 8 < 2 ^ (n * w) := by
  rw [pk_up]
  have hlt := pk_lt (l := b) (w := 8) hb
  rw [hl] at hlt
  constructor
  · intro h
    have h2 : pkN (upN (pkN b 8 % 2 ^ (n * w)) ((n * w + 7) / 8) 8) 8 = pkN b 8 := by rw [h]
    rw [pk_up] at h2
    have h3 := Nat.mod_le (pkN b 8 % 2 ^ (n * w)) (2 ^ ((n * w + 7) / 8 * 8))
    have h4 := Nat.mod_lt (pkN b 8) (Nat.two_pow_pos (n * w))
    omega
  · intro h
    rw [Nat.mod_eq_of_lt h, ← hl, up_pk (l := b) (w := 8) hb]
/-- What is packed is unpacked. -/
theorem upR_pk {l b : List Nat} {w : Int} (h : IsQ l) (hp : pkR l w = some b) : upR b l.length w = some l := by
  unfold pkR at hp
  split at hp
  · cases hp
  · rename_i hc
    have hw0 : 0 ≤ w := by omega
    obtain ⟨v, rfl⟩ := Int.eq_ofNat_of_zero_le hw0
    rw [Int.toNat_natCast] at hp
    cases hp
    have hf : Fit l v := (wdt_iff h v).2 (by omega)
    have hlt := pk_lt hf
    have e : pkN (upN (pkN l v) ((l.length * v + 7) / 8) 8) 8 = pkN l v := by
      rw [pk_up]
      exact Nat.mod_eq_of_lt (Nat.lt_of_lt_of_le hlt (Nat.pow_le_pow_right (by omega) (by omega)))
    unfold upR
    rw [Int.toNat_natCast, Int.toNat_natCast, upN_len, e, if_neg (by omega), up_pk hf]
/-- What is unpacked is packed. -/
theorem pkR_up {l b : List Nat} {n w : Int} (hb : IsB b) (hp : upR b n w = some l) : pkR l w = some b := by
  unfold upR at hp
  split at hp
  · cases hp
  · rename_i hc
    obtain ⟨v, rfl⟩ := Int.eq_ofNat_of_zero_le (show 0 ≤ w by omega)
    obtain ⟨m, rfl⟩ := Int.eq_ofNat_of_zero_le (show 0 ≤ n by omega)
    simp only [Int.toNat_natCast] at hp hc
    cases hp
    have hf := upN_fit (pkN b 8) m v
    have hq := hf.isq (by omega)
    have hw := (wdt_iff hq v).1 hf
    unfold pkR
    rw [upN_len, Int.toNat_natCast, if_neg (by omega)]
    have hk : pkN b 8 < 2 ^ (m * v) := by omega
    rw [(up_back hb (by omega)).2 hk]
/-- The same, by way of packing again. -/
theorem upR_of {b : List Nat} {n w : Nat} (hb : IsB b) (hn : n ≤ 65536) (hw : w ≤ 64) (hl : b.length = (n * w + 7) / 8) :
    upR b n w = (if pkR (upN (pkN b 8) n w) w = some b then some (upN (pkN b 8) n w) else none) := by
  have hf := upN_fit (pkN b 8) n w
  have hq := hf.isq hw
  have hwd := (wdt_iff hq w).1 hf
  have hp : pkR (upN (pkN b 8) n w) w = some (upN (pkN (upN (pkN b 8) n w) w) ((n * w + 7) / 8) 8) := by
    unfold pkR
    rw [upN_len, Int.toNat_natCast, if_neg (by omega)]
  unfold upR
  rw [Int.toNat_natCast, Int.toNat_natCast]
  by_cases h : pkN b 8 < 2 ^ (n * w)
  · have e : pkR (upN (pkN b 8) n w) w = some b := by rw [hp, (up_back hb hl).2 h]
    rw [if_pos e, if_neg (by omega)]
  · have e : ¬ pkR (upN (pkN b 8) n w) w = some b := by
      rw [hp, Option.some.injEq]
      exact fun e => h ((up_back hb hl).1 e)
    rw [if_neg e, if_pos (by omega)]
theorem upR_q {b l : List Nat} {n w : Int} (hp : upR b n w = some l) : IsQ l ∧ (l.length : Int) = n ∧ l.length ≤ 65536 := by
  unfold upR at hp
  split at hp
  · cases hp
  · rename_i hc
    cases hp
    refine ⟨(upN_fit _ _ _).isq (by omega), ?_, ?_⟩
    · rw [upN_len]; omega
    · rw [upN_len]; omega
theorem pkR_b {b l : List Nat} {w : Int} (hp : pkR l w = some b) : IsB b ∧ 0 ≤ w ∧ w ≤ 64 ∧ l.length ≤ 65536 ∧ (b.length : Int) = siz l.length w := by
  unfold pkR at hp
  split at hp
  · cases hp
  · rename_i hc
    obtain ⟨v, rfl⟩ := Int.eq_ofNat_of_zero_le (show 0 ≤ w by omega)
    cases hp
    refine ⟨upN_fit _ _ _, by omega, by omega, by omega, ?_⟩
    rw [upN_len, siz, if_neg (by omega), Int.toNat_natCast]
    omega
end Go.Proofs.Ytjmigglibidbdaa
