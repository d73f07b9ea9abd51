/- Words in memory, of the reference of layer 2: the product, a power of 2 as factor, the half, the size, the division. Conditions: the slices are words that lie in memory, at most 900 of them; a divisor is not 0. -/
import Derived.Test.YtjmigglibidbdaaBits
import Derived.Test.YtjmigglibidbdaaWrd1
import Derived.OwnWalk
import Derived.Test.YtjmigglibidbdaaDiv1
import Derived.Test.YtjmigglibidbdaaTapeC
namespace Go.Proofs.Ytjmigglibidbdaa
set_option linter.unusedVariables false
set_option linter.unusedSimpArgs false
open Go Go.RowKit
/-- A store turns the value by the word's difference. -/
theorem val_set (l : List Nat) (j x : Nat) (h : j < l.length) : val (l.set j x) + 18446744073709551616 ^ j * l[j] = val l + 18446744073709551616 ^ j * x := by
  induction l generalizing j with
  | nil => simp at h
  | cons y r ih =>
    cases j with
    | zero => simp [val]; omega
    | succ j =>
      have hj : j < r.length := by simpa using h
      have := ih j hj
      simp only [List.set_cons_succ, val, List.getElem_cons_succ, Nat.pow_succ]
      generalize val (r.set j x) = A at *
      generalize val r = C at *
      generalize r[j] = z at *
      generalize 18446744073709551616 ^ j = P at *
      grind
theorem w64_zeros (n : Nat) : W64 (List.replicate n 0) := by intro x hx; rw [List.mem_replicate] at hx; omega
/-- What has been multiplied so far: the words of p below i by all of q, the word i of p by the words of q below k. -/
def RMul (p q os : List Nat) (i k c : Nat) : Prop := os.length = p.length + q.length + 1 ∧ W64 os ∧ c < 18446744073709551616 ∧ (∀ j, i + q.length ≤ j → os.getD j 0 = 0) ∧
  val os + 18446744073709551616 ^ (i + k) * c = val (p.take i) * val q + 18446744073709551616 ^ i * (p.getD i 0 * val (q.take k))
theorem RMul.start (p q : List Nat) : RMul p q (List.replicate (p.length + q.length + 1) 0) 0 0 0 := by
  refine ⟨by simp, w64_zeros _, by omega, fun j _ => ?_, by simp [val_zeros, val]⟩
  rw [List.getD_eq_getElem?_getD]
  by_cases h : j < p.length + q.length + 1
  · simp [List.getElem?_replicate, h]
  · simp [List.getElem?_replicate, h]
theorem mul_word {x y o c : Nat} (hx : x < 18446744073709551616) (hy : y < 18446744073709551616) (ho : o < 18446744073709551616) (hc : c < 18446744073709551616) : x * y + o + c < 340282366920938463463374607431768211456 := by
  have h1 : x * y ≤ 18446744073709551615 * 18446744073709551615 := Nat.mul_le_mul (by omega) (by omega)
  omega
theorem RMul.step {p q os : List Nat} {i k c x y o lo hi : Nat} (h : RMul p q os i k c) (hi0 : i < p.length) (hk : k < q.length) (hx : p[i] = x) (hy : q[k] = y) (hik : i + k < os.length) (ho : os[i + k] = o) (bx : x < 18446744073709551616) (by' : y < 18446744073709551616)
    (hs : x * y + o + c = lo + 18446744073709551616 * hi) (bl : lo < 18446744073709551616) : RMul p q (os.set (i + k) lo) i (k + 1) hi := by
  obtain ⟨h1, h2, h3, h4, h5⟩ := h
  have bo : o < 18446744073709551616 := by rw [← ho]; exact w64_get h2 _ hik
  have bb := mul_word bx by' bo h3
  refine ⟨by simpa using h1, w64_set h2 _ _ bl, by omega, fun j hj => ?_, ?_⟩
  · rw [List.getD_eq_getElem?_getD, List.getElem?_set_ne (by omega), ← List.getD_eq_getElem?_getD]; exact h4 j hj
  · have hv := val_set os (i + k) lo hik
    have hg : p.getD i 0 = x := by simp [List.getD, hi0, hx]
    rw [ho] at hv
    rw [hg] at h5 ⊢
    rw [val_take_succ q k hk, hy, ← Nat.add_assoc, Nat.pow_succ]
    have e : 18446744073709551616 ^ (i + k) = 18446744073709551616 ^ i * 18446744073709551616 ^ k := Nat.pow_add _ _ _
    rw [e] at hv h5 ⊢
    generalize 18446744073709551616 ^ i = I at *
    generalize 18446744073709551616 ^ k = K at *
    generalize val (os.set (i + k) lo) = A at *
    generalize val os = C at *
    generalize val (q.take k) = Q at *
    generalize val (p.take i) * val q = R at *
    have e2 : I * K * (x * y + o + c) = I * K * (lo + 18446744073709551616 * hi) := by rw [hs]
    grind
theorem RMul.row {p q os : List Nat} {i c : Nat} (h : RMul p q os i q.length c) (hi0 : i < p.length) : RMul p q (os.set (i + q.length) c) (i + 1) 0 0 := by
  obtain ⟨h1, h2, h3, h4, h5⟩ := h
  have hl : i + q.length < os.length := by omega
  refine ⟨by simpa using h1, w64_set h2 _ _ h3, by omega, fun j hj => ?_, ?_⟩
  · rw [List.getD_eq_getElem?_getD, List.getElem?_set_ne (by omega), ← List.getD_eq_getElem?_getD]; exact h4 j (by omega)
  · have hv := val_set os (i + q.length) c hl
    have ho : os[i + q.length] = 0 := by have := h4 (i + q.length) (by omega); simpa [List.getD, hl] using this
    rw [ho] at hv
    rw [List.take_length] at h5
    rw [val_take_succ p i hi0, List.take_zero]
    have hg : p.getD i 0 = p[i] := by simp [List.getD, hi0]
    rw [hg] at h5
    have hz : val [] = 0 := rfl
    rw [hz]
    generalize 18446744073709551616 ^ (i + q.length) = Z at *
    generalize 18446744073709551616 ^ (i + 1 + 0) = Y at *
    generalize 18446744073709551616 ^ (i + 1) = X at *
    generalize 18446744073709551616 ^ i = W at *
    generalize val (os.set (i + q.length) c) = A at *
    generalize val os = B at *
    generalize val (List.take i p) = C at *
    generalize val q = D at *
    generalize p[i] = E at *
    have e : (C + W * E) * D = C * D + W * (E * D) := by rw [Nat.add_mul, Nat.mul_assoc]
    rw [e]
    omega
theorem RMul.done {p q os : List Nat} (h : RMul p q os p.length 0 0) : val os = val p * val q := by
  obtain ⟨_, _, _, _, h5⟩ := h
  rw [List.take_length] at h5
  simpa [val] using h5
theorem getD_set_ne (l : List Nat) (k j x : Nat) (h : k ≠ j) : (l.set k x).getD j 0 = l.getD j 0 := by
  rw [List.getD_eq_getElem?_getD, List.getElem?_set_ne h, ← List.getD_eq_getElem?_getD]
theorem getD_of_get {l : List Nat} {k x : Nat} (h : k < l.length) (hx : l[k] = x) : l.getD k 0 = x := by simp [List.getD, h, hx]
theorem get_of_getD {l : List Nat} {k x : Nat} (h : k < l.length) (hx : l.getD k 0 = x) : l[k] = x := by simpa [List.getD, h] using hx
theorem getD_set_self (l : List Nat) (k x : Nat) (h : k < l.length) : (l.set k x).getD k 0 = x := by simp [List.getD, h]
theorem set_same (l : List Nat) (k x : Nat) (h : l.getD k 0 = x) : l.set k x = l := by
  by_cases hk : k < l.length
  · have := get_of_getD hk h
    subst this
    exact List.set_getElem_self hk
  · exact List.set_eq_of_length_le (by omega)
/-- What has been shifted so far, by q words and r bits. -/
def RUp (p os : List Nat) (q r i : Nat) : Prop := os.length = p.length + q + 1 ∧ W64 os ∧ os.getD (i + q) 0 < 2 ^ r ∧ (∀ j, i + q < j → os.getD j 0 = 0) ∧ val os = 18446744073709551616 ^ q * (val (p.take i) * 2 ^ r)
theorem RUp.start (p : List Nat) (q r : Nat) : RUp p (List.replicate (p.length + q + 1) 0) q r 0 := by
  have hz : ∀ j, (List.replicate (p.length + q + 1) 0).getD j 0 = 0 := by
    intro j
    rw [List.getD_eq_getElem?_getD, List.getElem?_replicate]
    split <;> rfl
  refine ⟨by simp, w64_zeros _, by rw [hz]; exact Nat.two_pow_pos _, fun j _ => hz j, by simp [val_zeros, val]⟩
theorem RUp.step {p os : List Nat} {q r i x o z t : Nat} (h : RUp p os q r i) (hi : i < p.length) (hx : p[i] = x) (ho : os.getD (i + q) 0 = o) (hs : z + 18446744073709551616 * t = x * 2 ^ r + o) (bz : z < 18446744073709551616) (bt : t < 2 ^ r) (hr : r < 64) :
    RUp p ((os.set (i + q) z).set (i + q + 1) t) q r (i + 1) := by
  obtain ⟨h1, h2, h3, h4, h5⟩ := h
  have hl : i + q < os.length := by omega
  have hl1 : i + q + 1 < (os.set (i + q) z).length := by rw [List.length_set]; omega
  have bt2 : t < 18446744073709551616 := by
    have : 2 ^ r ≤ 2 ^ 63 := Nat.pow_le_pow_right (by omega) (by omega)
    omega
  refine ⟨by simpa using h1, w64_set (w64_set h2 _ _ bz) _ _ bt2, ?_, fun j hj => ?_, ?_⟩
  · rw [show i + 1 + q = i + q + 1 by omega, getD_set_self _ _ _ hl1]; exact bt
  · rw [getD_set_ne _ _ _ _ (by omega), getD_set_ne _ _ _ _ (by omega)]; exact h4 j (by omega)
  · have v1 := val_set os (i + q) z hl
    have v2 := val_set (os.set (i + q) z) (i + q + 1) t hl1
    have e1 := get_of_getD hl ho
    have e2 : (os.set (i + q) z)[i + q + 1] = 0 := get_of_getD hl1 (by rw [getD_set_ne _ _ _ _ (by omega)]; exact h4 _ (by omega))
    rw [e1] at v1
    rw [e2, Nat.pow_succ] at v2
    rw [val_take_succ p i hi, hx]
    rw [Nat.pow_add 18446744073709551616 i q] at v1 v2
    rw [h5] at v1
    generalize val ((os.set (i + q) z).set (i + q + 1) t) = A at *
    generalize val (os.set (i + q) z) = C at *
    generalize 18446744073709551616 ^ i = I at *
    generalize 18446744073709551616 ^ q = Q at *
    generalize val (List.take i p) = V at *
    generalize 2 ^ r = R at *
    clear h1 h2 h3 h4 h5 e1 e2 hl hl1 bt2 bz bt
    have e3 : I * Q * (z + 18446744073709551616 * t) = I * Q * (x * R + o) := by rw [hs]
    grind
theorem RUp.done {p os : List Nat} {q r : Nat} (h : RUp p os q r p.length) : val os = val p * 2 ^ (64 * q + r) := by
  obtain ⟨_, _, _, _, h5⟩ := h
  rw [List.take_length] at h5
  rw [h5, Nat.pow_add, Nat.pow_mul, show (2 : Nat) ^ 64 = 18446744073709551616 from rfl]
  generalize 18446744073709551616 ^ q = Q
  grind
theorem or_comm' (x y : Int) : bits .or .u64 x y = bits .or .u64 y x := by
  show IntKind.u64.wrap ((BitVec.ofInt 64 x ||| BitVec.ofInt 64 y).toNat : Int) = IntKind.u64.wrap ((BitVec.ofInt 64 y ||| BitVec.ofInt 64 x).toNat : Int)
  rw [BitVec.or_comm]
theorem or_zero' (t : Nat) (h : t < 18446744073709551616) : bits .or .u64 0 (t : Int) = (t : Int) := by
  have e : (2 : Nat) ^ 64 = 18446744073709551616 := by decide
  have := or_sum 0 t 64 (by omega) (by rw [e]; exact h) (by rw [Nat.zero_mul]; omega)
  rw [Nat.zero_mul, Nat.zero_add] at this
  exact this
/-- A word shifted up and added to bits below. -/
theorem shl_or (x s c : Nat) (hs : s < 64) (hx : x < 18446744073709551616) (hc : c < 2 ^ s) :
    ∃ l t z : Nat, IntKind.u64.wrap ((x : Int) * 2 ^ s) = (l : Int) ∧ bits .or .u64 (c : Int) (l : Int) = (z : Int) ∧ (x : Int) / 2 ^ (64 - s) = (t : Int) ∧ bits .or .u64 0 (t : Int) = (t : Int) ∧ Hid (z + 18446744073709551616 * t = x * 2 ^ s + c ∧ z < 18446744073709551616 ∧ t < 2 ^ s ∧ t < 18446744073709551616) := by
  obtain ⟨l, t, z, h1, h2, h3, h4⟩ := shl_parts x s c hs hx hc
  have ht : t < 18446744073709551616 := by
    have h5 := h4.out.2.2
    have : 2 ^ s ≤ 2 ^ 63 := Nat.pow_le_pow_right (by omega) (by omega)
    omega
  exact ⟨l, t, z, h1, by rw [or_comm']; exact h2, h3, or_zero' t ht, ⟨h4.out.1, h4.out.2.1, h4.out.2.2, ht⟩⟩
/-- What has been halved so far. -/
def RHalf (p os : List Nat) (i : Nat) : Prop := os.length = p.length ∧ W64 os ∧ os.drop i = p.drop i ∧ 2 * val (os.take i) + p.getD 0 0 % 2 = val (p.take i) + 18446744073709551616 ^ i * (p.getD i 0 % 2)
theorem RHalf.start (p : List Nat) (h : W64 p) : RHalf p p 0 := ⟨rfl, h, rfl, by simp [val]⟩
theorem RHalf.step {p os : List Nat} {i x z : Nat} (h : RHalf p os i) (hi : i < p.length) (hx : p[i] = x) (hz : z = x / 2 + 9223372036854775808 * (p.getD (i + 1) 0 % 2)) (bx : x < 18446744073709551616) : RHalf p (os.set i z) (i + 1) := by
  obtain ⟨h1, h2, h3, h4⟩ := h
  refine ⟨by simpa using h1, w64_set h2 _ _ (by omega), by rw [drop_set]; exact (drop_get h3 (by omega) hi).2, ?_⟩
  rw [val_set_take _ _ _ (by omega), val_take_succ p i hi, hx, Nat.pow_succ]
  rw [getD_of_get hi hx] at h4
  have e := Nat.div_add_mod x 2
  generalize p.getD (i + 1) 0 % 2 = y at *
  generalize p.getD 0 0 % 2 = f at *
  generalize val (os.take i) = A at *
  generalize val (p.take i) = C at *
  generalize 18446744073709551616 ^ i = I at *
  generalize x % 2 = m at *
  generalize x / 2 = d at *
  subst e
  subst hz
  clear h1 h2 h3 bx hi hx
  grind
theorem RHalf.done {p os : List Nat} (h : RHalf p os p.length) : val os = val p / 2 := by
  obtain ⟨h1, _, _, h4⟩ := h
  rw [List.take_length, List.take_of_length_le (by omega)] at h4
  have : p.getD p.length 0 = 0 := by simp [List.getD]
  rw [this] at h4
  generalize 18446744073709551616 ^ p.length = I at *
  cases p with
  | nil => cases os with
    | nil => rfl
    | cons y r => simp at h1
  | cons y r =>
    simp only [val] at *
    simp only [List.getD_cons_zero] at h4
    omega
/-- The number of bits. -/
def Size (n s : Nat) : Prop := n < 2 ^ s ∧ (n ≠ 0 → 1 ≤ s ∧ 2 ^ (s - 1) ≤ n) ∧ (n = 0 → s = 0)
theorem size_words (l : List Nat) (x k : Nat) (hl : W64 l) (h1 : x < 2 ^ k) (h2 : 1 ≤ k) (h3 : 2 ^ (k - 1) ≤ x) : Size (val (l ++ [x])) (64 * l.length + k) := by
  have e : 18446744073709551616 ^ l.length = 2 ^ (64 * l.length) := by rw [Nat.pow_mul]
  have hv := val_lt l hl
  rw [val_snoc]
  rw [e] at hv ⊢
  have e1 : 2 ^ (64 * l.length + k) = 2 ^ (64 * l.length) * 2 ^ k := Nat.pow_add _ _ _
  have e2 : 2 ^ (64 * l.length + k - 1) = 2 ^ (64 * l.length) * 2 ^ (k - 1) := by rw [← Nat.pow_add]; congr 1; omega
  have p1 := Nat.two_pow_pos (64 * l.length)
  have p2 := Nat.two_pow_pos (k - 1)
  generalize 2 ^ (64 * l.length) = I at *
  refine ⟨?_, fun _ => ⟨by omega, ?_⟩, fun h => ?_⟩
  · rw [e1]
    have : I * (x + 1) ≤ I * 2 ^ k := Nat.mul_le_mul_left _ h1
    rw [Nat.mul_add, Nat.mul_one] at this
    omega
  · rw [e2]
    have : I * 2 ^ (k - 1) ≤ I * x := Nat.mul_le_mul_left _ h3
    omega
  · exfalso
    have : I * 1 ≤ I * x := Nat.mul_le_mul_left _ (by omega)
    omega
/-- A bit that is not set is set. -/
theorem bit_set (l : List Nat) (j s x : Nat) (hj : j < l.length) (hx : l[j] = x) (hl : W64 l) (hs : s < 64) (hd : val l % 2 ^ (64 * j + s + 1) = 0) :
    ∃ z : Nat, bits .or .u64 (x : Int) ((2 ^ s : Nat) : Int) = (z : Int) ∧ Hid (z < 18446744073709551616 ∧ val (l.set j z) = val l + 2 ^ (64 * j + s)) := by
  have bx : x < 18446744073709551616 := by rw [← hx]; exact w64_get hl j hj
  have hv := val_take_drop l j (by omega)
  rw [val_drop l j hj, hx] at hv
  have e : 18446744073709551616 ^ j = 2 ^ (64 * j) := by rw [Nat.pow_mul]
  have ht := val_lt (l.take j) (w64_take hl j)
  rw [List.length_take, Nat.min_eq_left (by omega)] at ht
  have hset := val_set l j
  rw [e] at hv ht hset
  have hdv : 2 ^ (64 * j) * 2 ^ (s + 1) ∣ val l := by rw [← Nat.pow_add]; exact Nat.dvd_of_mod_eq_zero hd
  have e1 : 2 ^ (64 * j + s) = 2 ^ (64 * j) * 2 ^ s := Nat.pow_add _ _ _
  have h64 : (2 : Nat) ^ (s + 1) ∣ 18446744073709551616 := by
    have : (2 : Nat) ^ (s + 1) ∣ 2 ^ 64 := Nat.pow_dvd_pow 2 (by omega)
    exact this
  have p1 := Nat.two_pow_pos (64 * j)
  have h0 : val (l.take j) = 0 := by
    obtain ⟨m, hm⟩ := hdv
    have h1 : (val (l.take j) + 2 ^ (64 * j) * (x + 18446744073709551616 * val (l.drop (j + 1)))) % 2 ^ (64 * j) = 0 := by
      rw [← hv, hm, Nat.mul_assoc, Nat.mul_mod_right]
    rw [Nat.add_mul_mod_self_left, Nat.mod_eq_of_lt ht] at h1
    exact h1
  have hdx : 2 ^ (s + 1) ∣ x := by
    rw [hv, h0, Nat.zero_add] at hdv
    have h1 := Nat.dvd_of_mul_dvd_mul_left p1 hdv
    exact (Nat.dvd_add_left (Nat.dvd_trans h64 (Nat.dvd_mul_right _ _))).1 h1
  obtain ⟨y, hy⟩ := hdx
  have hyx : x = y * 2 ^ (s + 1) := by rw [hy, Nat.mul_comm]
  have hor := or_sum y (2 ^ s) (s + 1) (by omega) (by rw [Nat.pow_succ]; have := Nat.two_pow_pos s; omega) (by rw [← hyx]; exact bx)
  rw [← hyx] at hor
  have hz := hset (x + 2 ^ s) hj
  rw [hx] at hz
  have hw : x + 2 ^ s < 18446744073709551616 := by
    have e3 : (18446744073709551616 : Nat) = 2 ^ (63 - s) * 2 ^ (s + 1) := by rw [← Nat.pow_add, show 63 - s + (s + 1) = 64 by omega]
    have h2 : y * 2 ^ (s + 1) < 2 ^ (63 - s) * 2 ^ (s + 1) := by rw [← e3, ← hyx]; exact bx
    have h3 := Nat.lt_of_mul_lt_mul_right h2
    have h4 : (y + 1) * 2 ^ (s + 1) ≤ 2 ^ (63 - s) * 2 ^ (s + 1) := Nat.mul_le_mul_right _ h3
    rw [← e3, Nat.add_mul, Nat.one_mul, ← hyx, Nat.pow_succ] at h4
    have := Nat.two_pow_pos s
    omega
  refine ⟨x + 2 ^ s, hor, ⟨hw, ?_⟩⟩
  rw [e1]
  rw [Nat.mul_add] at hz
  omega
theorem wd_zeros (n : Nat) : (madeCells (Value.int .u64 0).cells (n * 1)).toList = wd (List.replicate n 0) := by
  rw [Nat.mul_one]
  apply List.ext_getElem
  · simp [madeCells, wd]
  · intro i h1 h2
    simp [madeCells, wd, Value.cells, Nat.mod_one]
theorem words_made {B : Nat} {w : World} {v : Value} {n : Nat} (h : w.ownsRow B 52 1 v n (madeCells (Value.int .u64 0).cells (n * 1)).toList) : Words B w v (List.replicate n 0) := by
  refine ⟨?_, w64_zeros n⟩
  rw [wd_zeros] at h
  simpa using h
theorem mul_word_parts (x y o c : Nat) (bx : x < 18446744073709551616) (by' : y < 18446744073709551616) (bo : o < 18446744073709551616) (bc : c < 18446744073709551616) :
    ∃ h1 l1 c1 l2 h2 c2 l3 h3 : Nat, Hid (x * y / 18446744073709551616 = h1) ∧ Hid (x * y % 18446744073709551616 = l1) ∧ Hid ((l1 + o) % 18446744073709551616 = l2) ∧ Hid ((l1 + o) / 18446744073709551616 = c1) ∧
      IntKind.u64.wrap ((h1 : Int) + (c1 : Int)) = (h2 : Int) ∧ Hid ((l2 + c) % 18446744073709551616 = l3) ∧ Hid ((l2 + c) / 18446744073709551616 = c2) ∧ IntKind.u64.wrap ((h2 : Int) + (c2 : Int)) = (h3 : Int) ∧
      Hid (x * y + o + c = l3 + 18446744073709551616 * h3 ∧ l3 < 18446744073709551616 ∧ h3 < 18446744073709551616) := by
  have hb := mul_word bx by' bo bc
  have hp := prod_le bx by'
  obtain ⟨P, hP⟩ : ∃ P, x * y = P := ⟨_, rfl⟩
  rw [hP] at hb hp ⊢
  clear hP
  refine ⟨_, _, _, _, P / 18446744073709551616 + (P % 18446744073709551616 + o) / 18446744073709551616, _, _, P / 18446744073709551616 + (P % 18446744073709551616 + o) / 18446744073709551616 + ((P % 18446744073709551616 + o) % 18446744073709551616 + c) / 18446744073709551616, rfl, rfl, rfl, rfl, ?_, rfl, rfl, ?_, ⟨?_, ?_, ?_⟩⟩
  · rw [wrap_u64']; omega
  · rw [wrap_u64']; omega
  · omega
  · omega
  · omega
theorem quo64 (k q r : Nat) (h : k = 64 * q + r) (hr : r < 64) : (k : Int).tdiv 64 = (q : Int) ∧ (k : Int) / 64 = (q : Int) ∧ (k : Int).tmod 64 = (r : Int) ∧ (k : Int) % 64 = (r : Int) := by
  have h1 : (k : Int).tdiv 64 = (k : Int) / 64 := Int.tdiv_eq_ediv_of_nonneg (by omega)
  have h2 : (k : Int).tmod 64 = (k : Int) % 64 := Int.tmod_eq_emod_of_nonneg (by omega)
  rw [h1, h2]
  omega
/-- The slice v does not lie in block g. -/
def Apart (g : Nat) (v : Value) : Prop := ∀ g' n c, v = .slice (some ⟨g', 0, none⟩) n c → g' ≠ g
theorem Words.upd {B g : Nat} {w w' : World} {v : Value} {l : List Nat} (h : Words B w v l) (k : Upd g w w') (ha : Apart g v) : Words B w' v l := by
  refine ⟨?_, h.2⟩
  obtain ⟨h1, h2 | ⟨g', cap, cur, hv, hg, hh, r⟩⟩ := h.1
  · exact ⟨h1, Or.inl h2⟩
  · have hlt := (h.1.lt g' (by rw [hv]; rfl)).2
    exact ⟨h1, Or.inr ⟨g', cap, cur, hv, hg, by rw [k.2.2.2.2 g' hlt (ha _ _ _ hv)]; exact hh, r⟩⟩
theorem Words.apart {B g : Nat} {w : World} {v : Value} {l : List Nat} (h : Words B w v l) (hg : w.heap.size ≤ g) : Apart g v := by
  rintro g' n c rfl
  have := (h.1.lt g' rfl).2
  omega
theorem Words.apart' {B g : Nat} {w : World} {v : Value} {l : List Nat} (h : Words B w v l) (hg : g < B) : Apart g v := by
  rintro g' n c rfl
  have := (h.1.lt g' rfl).1
  omega
def AtWords (B g cap : Nat) (l : List Nat) (w : World) (e : Ending) (w' : World) : Prop := e = .returned (.slice (some ⟨g, 0, none⟩) l.length cap) ∧ Words B w' (.slice (some ⟨g, 0, none⟩) l.length cap) l ∧ w = w'
/-- The half of a word, with the lowest bit of the next one on top. -/
theorem half_parts (x y : Nat) (hx : x < 18446744073709551616) (hy : y < 18446744073709551616) :
    ∃ h l z : Nat, (x : Int) / 2 = (h : Int) ∧ IntKind.u64.wrap ((y : Int) * 9223372036854775808) = (l : Int) ∧ bits .or .u64 (h : Int) (l : Int) = (z : Int) ∧ Hid (h = x / 2 ∧ z = x / 2 + 9223372036854775808 * (y % 2) ∧ z < 18446744073709551616 ∧ h < 9223372036854775808) := by
  have e63 : (2 : Nat) ^ 63 = 9223372036854775808 := by decide
  obtain ⟨k, b, hk, hb⟩ : ∃ k b, y = 2 * k + b ∧ b < 2 := ⟨y / 2, y % 2, by omega, by omega⟩
  have hyb : y % 2 = b := by omega
  obtain ⟨h, m, hh, hm⟩ : ∃ h m, x = 2 * h + m ∧ m < 2 := ⟨x / 2, x % 2, by omega, by omega⟩
  have hxh : x / 2 = h := by omega
  have h1 : b * 2 ^ 63 < 18446744073709551616 := by rw [e63]; omega
  have ho := or_sum b h 63 (by omega) (by rw [e63]; omega) h1
  rw [e63] at ho
  have hw : IntKind.u64.wrap ((y : Int) * 9223372036854775808) = ((b * 9223372036854775808 : Nat) : Int) := by
    rw [wrap_u64', hk]
    have e : ((2 * k + b : Nat) : Int) * 9223372036854775808 = (b : Int) * 9223372036854775808 + 18446744073709551616 * (k : Int) := by push_cast; omega
    rw [e, Int.add_mul_emod_self_left, Int.natCast_mul]
    exact Int.emod_eq_of_lt (by omega) (by omega)
  rw [hyb, hxh]
  have ho2 := (or_comm' _ _).trans ho
  have h2 : (x : Int) / 2 = (h : Int) := by omega
  have h3 : b * 9223372036854775808 + h = h + 9223372036854775808 * b := (Nat.add_comm _ _).trans (congrArg (h + ·) (Nat.mul_comm _ _))
  have h4 : b * 9223372036854775808 ≤ 1 * 9223372036854775808 := Nat.mul_le_mul_right _ (by omega)
  have h5 : h < 9223372036854775808 := by omega
  have h6 : b * 9223372036854775808 + h < 18446744073709551616 := Nat.lt_of_lt_of_le (Nat.add_lt_add_of_le_of_lt h4 h5) (by decide)
  exact ⟨h, _, _, h2, hw, ho2, ⟨rfl, h3, h6, h5⟩⟩
def HalfRet (B g cap n : Nat) (w : World) (e : Ending) (w' : World) : Prop := e = .returned (.slice (some ⟨g, 0, none⟩) (limbs n).length cap) ∧ Words B w' (.slice (some ⟨g, 0, none⟩) (limbs n).length cap) (limbs n) ∧ Upd g w w'
def SizeRet (n : Nat) (w : World) (e : Ending) (w' : World) : Prop := ∃ s : Nat, e = .returned (.int .i64 (s : Int)) ∧ Size n s ∧ s ≤ 64000 ∧ w = w'
/-- What has been divided so far, word by word. -/
def RDiv (p os : List Nat) (y k c : Nat) : Prop := os.length = p.length ∧ W64 os ∧ c < y ∧ val (os.drop k) * y + c = val (p.drop k)
theorem RDiv.start (p : List Nat) (y : Nat) (hy : 0 < y) : RDiv p (List.replicate p.length 0) y p.length 0 :=
  ⟨by simp, w64_zeros _, hy, by rw [List.drop_of_length_le (by simp), List.drop_of_length_le (Nat.le_refl _)]; simp [val]⟩
theorem RDiv.step {p os : List Nat} {y j c x q r : Nat} (h : RDiv p os y (j + 1) c) (hj : j < p.length) (hx : p[j] = x) (bx : x < 18446744073709551616) (hq : (c * 18446744073709551616 + x) / y = q) (hr : (c * 18446744073709551616 + x) % y = r) :
    RDiv p (os.set j q) y j r ∧ q < 18446744073709551616 := by
  obtain ⟨h1, h2, h3, h4⟩ := h
  have hq2 : q < 18446744073709551616 := by
    rw [← hq, Nat.div_lt_iff_lt_mul (by omega)]
    have : (c + 1) * 18446744073709551616 ≤ y * 18446744073709551616 := Nat.mul_le_mul_right _ h3
    omega
  refine ⟨⟨by simpa using h1, w64_set h2 _ _ hq2, by rw [← hr]; exact Nat.mod_lt _ (by omega), ?_⟩, hq2⟩
  have hl : j < (os.set j q).length := by rw [List.length_set]; omega
  rw [val_drop _ j hl, List.getElem_set_self, drop_set, val_drop p j hj, hx, ← h4]
  have e := Nat.div_add_mod (c * 18446744073709551616 + x) y
  rw [hq, hr] at e
  generalize val (os.drop (j + 1)) = V at *
  rw [Nat.add_mul, Nat.mul_assoc, Nat.mul_add]
  rw [Nat.mul_comm q y]
  omega
theorem RDiv.done {p os : List Nat} {y c : Nat} (h : RDiv p os y 0 c) : val os = val p / y ∧ c = val p % y := by
  obtain ⟨_, _, h3, h4⟩ := h
  simp only [List.drop_zero] at h4
  rw [← h4]
  have e1 : (val os * y + c) / y = val os := by rw [Nat.mul_comm, Nat.mul_add_div (by omega), Nat.div_eq_of_lt h3, Nat.add_zero]
  have e2 : (val os * y + c) % y = c := by rw [Nat.mul_comm, Nat.mul_add_mod, Nat.mod_eq_of_lt h3]
  exact ⟨e1.symm, e2.symm⟩
def DivWords (B n m : Nat) (w : World) (e : Ending) (w' : World) : Prop := ∃ v1 v2, e = .returned (.tuple #[v1, v2]) ∧ Words B w' v1 (limbs (n / m)) ∧ Words B w' v2 (limbs (n % m)) ∧ Ext w w'
theorem words_none (B : Nat) (w : World) : Words B w (.slice none 0 0) [] := ⟨⟨by simp [wd], Or.inl ⟨rfl, rfl⟩⟩, by intro x hx; simp at hx⟩
theorem limbs_one (y : Nat) (h0 : 0 < y) (hy : y < 18446744073709551616) : limbs y = [y] := by
  rw [limbs_pos (by omega), Nat.mod_eq_of_lt hy, Nat.div_eq_of_lt hy, limbs_zero]
theorem half_of (m j : Nat) : m * 2 ^ (j + 1) / 2 = m * 2 ^ j := by
  rw [Nat.pow_succ, ← Nat.mul_assoc, Nat.mul_div_cancel _ (by omega)]
theorem apart_at {g gd n c : Nat} (h : g ≠ gd) : Apart gd (.slice (some ⟨g, 0, none⟩) n c) := by
  rintro g' n' c' e
  simp only [Value.slice.injEq, Option.some.injEq, Addr.mk.injEq] at e
  omega
theorem bit_in {j n la : Nat} (h : 2 ^ j ≤ n) (hn : n < 18446744073709551616 ^ la) : j < 64 * la := by
  have e : 18446744073709551616 ^ la = 2 ^ (64 * la) := by rw [Nat.pow_mul]
  rw [e] at hn
  exact (Nat.pow_lt_pow_iff_right (by omega)).1 (Nat.lt_of_le_of_lt h hn)
theorem one_shl (s : Nat) (hs : s < 64) : ∃ t : Nat, IntKind.u64.wrap ((2 : Int) ^ s) = (t : Int) ∧ IntKind.u64.wrap (1 * (2 : Int) ^ s) = (t : Int) ∧ Hid (t = 2 ^ s) := by
  have h1 : 2 ^ s < 18446744073709551616 := Nat.lt_of_le_of_lt (Nat.pow_le_pow_right (by omega) (show s ≤ 63 by omega)) (by decide)
  have h2 : ((2 : Int) ^ s) = ((2 ^ s : Nat) : Int) := by rw [Int.natCast_pow]; rfl
  have h3 : IntKind.u64.wrap ((2 : Int) ^ s) = ((2 ^ s : Nat) : Int) := by
    rw [h2, wrap_u64']
    generalize 2 ^ s = t at *
    omega
  exact ⟨2 ^ s, h3, by rw [Int.one_mul]; exact h3, rfl⟩
theorem size_pos {n s : Nat} (h : Size n s) (h1 : 1 ≤ s) : n ≠ 0 := fun e => by have := h.2.2 e; omega
theorem up_lt {n m s1 s2 z la : Nat} (h1 : Size n s1) (h2 : Size m s2) (hz : s1 = s2 + z) (h3 : 1 ≤ s2) (hl : (limbs n).length = la) : m * 2 ^ z < 18446744073709551616 ^ (la + 1) ∧ n < m * 2 ^ (z + 1) := by
  have hn0 := size_pos h1 (by omega)
  have hm0 := size_pos h2 h3
  obtain ⟨_, i2⟩ := h1.2.1 hn0
  obtain ⟨_, j2⟩ := h2.2.1 hm0
  have hb : n < 18446744073709551616 ^ la := limbs_len_le.1 (by omega)
  have e1 : 2 ^ s1 = 2 * 2 ^ (s1 - 1) := by rw [← Nat.pow_succ']; congr 1; omega
  have e2 : 2 ^ s1 = 2 ^ s2 * 2 ^ z := by rw [hz, Nat.pow_add]
  have e3 : 2 ^ s2 = 2 * 2 ^ (s2 - 1) := by rw [← Nat.pow_succ']; congr 1; omega
  have k1 : m * 2 ^ z < 2 ^ s2 * 2 ^ z := Nat.mul_lt_mul_of_pos_right h2.1 (Nat.two_pow_pos _)
  have k2 : 2 ^ (s2 - 1) * 2 ^ (z + 1) ≤ m * 2 ^ (z + 1) := Nat.mul_le_mul_right _ j2
  have k3 : 2 ^ (s2 - 1) * 2 ^ (z + 1) = 2 ^ s1 := by rw [← Nat.pow_add]; congr 1; omega
  have hn1 := h1.1
  refine ⟨?_, by omega⟩
  rw [Nat.pow_succ]
  generalize 18446744073709551616 ^ la = X at *
  generalize m * 2 ^ z = Y at *
  rw [← e2] at k1
  omega
end Go.Proofs.Ytjmigglibidbdaa
