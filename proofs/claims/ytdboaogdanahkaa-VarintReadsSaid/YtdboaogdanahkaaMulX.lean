/- Words in memory, of the reference of layer 2: the product, a power of 2 as factor, the half, the size, the division. Conditions: the slices are words that lie in memory, at most 900 of them; a divisor is not 0. -/
import Derived.Test.YtdboaogdanahkaaBits
import Derived.Test.YtdboaogdanahkaaWrd1
import Derived.OwnWalk
import Derived.Test.YtdboaogdanahkaaDiv1
import Derived.Test.YtdboaogdanahkaaTapeC
namespace Go.Proofs.Ytdboaogdanahkaa
set_option linter.unusedVariables false
set_option linter.unusedSimpArgs false
open Go Go.RowKit
/-- A store turns the value by the word's difference. -/
theorem val_set (l : List Nat) (j x : Nat) (h : j < l.length) : val (l.set j x) + 18446744073709551616 ^ j * l[j] = val l + 18446744073709551616 ^ j * x := by
  induction l generalizing j with
  | nil => simp at h
  | cons y r ih =>
    cases j with
    | zero => simp [val]; omega
    | succ j =>
      have hj : j < r.length := by simpa using h
      have := ih j hj
      simp only [List.set_cons_succ, val, List.getElem_cons_succ, Nat.pow_succ]
      generalize val (r.set j x) = A at *
      generalize val r = C at *
      generalize r[j] = z at *
      generalize 18446744073709551616 ^ j = P at *
      grind
theorem w64_zeros (n : Nat) : W64 (List.replicate n 0) := by intro x hx; rw [List.mem_replicate] at hx; omega
/-- What has been multiplied so far: the words of p below i by all of q, the word i of p by the words of q below k. -/
def RMul (p q os : List Nat) (i k c : Nat) : Prop := os.length = p.length + q.length + 1 ∧ W64 os ∧ c < 18446744073709551616 ∧ (∀ j, i + q.length ≤ j → os.getD j 0 = 0) ∧
  val os + 18446744073709551616 ^ (i + k) * c = val (p.take i) * val q + 18446744073709551616 ^ i * (p.getD i 0 * val (q.take k))
theorem RMul.start (p q : List Nat) : RMul p q (List.replicate (p.length + q.length + 1) 0) 0 0 0 := by
  refine ⟨by simp, w64_zeros _, by omega, fun j _ => ?_, by simp [val_zeros, val]⟩
  rw [List.getD_eq_getElem?_getD]
  by_cases h : j < p.length + q.length + 1
  · simp [List.getElem?_replicate, h]
  · simp [List.getElem?_replicate, h]
theorem mul_word {x y o c : Nat} (hx : x < 18446744073709551616) (hy : y < 18446744073709551616) (ho : o < 18446744073709551616) (hc : c < 18446744073709551616) : x * y + o + c < 340282366920938463463374607431768211456 := by
  have h1 : x * y ≤ 18446744073709551615 * 18446744073709551615 := Nat.mul_le_mul (by omega) (by omega)
  omega
theorem RMul.step {p q os : List Nat} {i k c x y o lo hi : Nat} (h : RMul p q os i k c) (hi0 : i < p.length) (hk : k < q.length) (hx : p[i] = x) (hy : q[k] = y) (hik : i + k < os.length) (ho : os[i + k] = o) (bx : x < 18446744073709551616) (by' : y < 18446744073709551616)
    (hs : x * y + o + c = lo + 18446744073709551616 * hi) (bl : lo < 18446744073709551616) : RMul p q (os.set (i + k) lo) i (k + 1) hi := by
  obtain ⟨h1, h2, h3, h4, h5⟩ := h
  have bo : o < 18446744073709551616 := by rw [← ho]; exact w64_get h2 _ hik
  have bb := mul_word bx by' bo h3
  refine ⟨by simpa using h1, w64_set h2 _ _ bl, by omega, fun j hj => ?_, ?_⟩
  · rw [List.getD_eq_getElem?_getD, List.getElem?_set_ne (by omega), ← List.getD_eq_getElem?_getD]; exact h4 j hj
  · have hv := val_set os (i + k) lo hik
    have hg : p.getD i 0 = x := by simp [List.getD, hi0, hx]
    rw [ho] at hv
    rw [hg] at h5 ⊢
    rw [val_take_succ q k hk, hy, ← Nat.add_assoc, Nat.pow_succ]
    have e : 18446744073709551616 ^ (i + k) = 18446744073709551616 ^ i * 18446744073709551616 ^ k := Nat.pow_add _ _ _
    rw [e] at hv h5 ⊢
    generalize 18446744073709551616 ^ i = I at *
    generalize 18446744073709551616 ^ k = K at *
    generalize val (os.set (i + k) lo) = A at *
    generalize val os = C at *
    generalize val (q.take k) = Q at *
    generalize val (p.take i) * val q = R at *
    have e2 : I * K * (x * y + o + c) = I * K * (lo + 18446744073709551616 * hi) := by rw [hs]
    grind
theorem RMul.row {p q os : List Nat} {i c : Nat} (h : RMul p q os i q.length c) (hi0 : i < p.length) : RMul p q (os.set (i + q.length) c) (i + 1) 0 0 := by
  obtain ⟨h1, h2, h3, h4, h5⟩ := h
  have hl : i + q.length < os.length := by omega
  refine ⟨by simpa using h1, w64_set h2 _ _ h3, by omega, fun j hj => ?_, ?_⟩
  · rw [List.getD_eq_getElem?_getD, List.getElem?_set_ne (by omega), ← List.getD_eq_getElem?_getD]; exact h4 j (by omega)
  · have hv := val_set os (i + q.length) c hl
    have ho : os[i + q.length] = 0 := by have := h4 (i + q.length) (by omega); simpa [List.getD, hl] using this
    rw [ho] at hv
    rw [List.take_length] at h5
    rw [val_take_succ p i hi0, List.take_zero]
    have hg : p.getD i 0 = p[i] := by simp [List.getD, hi0]
    rw [hg] at h5
    have hz : val [] = 0 := rfl
    rw [hz]
    generalize 18446744073709551616 ^ (i + q.length) = Z at *
    generalize 18446744073709551616 ^ (i + 1 + 0) = Y at *
    generalize 18446744073709551616 ^ (i + 1) = X at *
    generalize 18446744073709551616 ^ i = W at *
    generalize val (os.set (i + q.length) c) = A at *
    generalize val os = B at *
    generalize val (List.take i p) = C at *
    generalize val q = D at *
    generalize p[i] = E at *
    have e : (C + W * E) * D = C * D + W * (E * D) := by rw [Nat.add_mul, Nat.mul_assoc]
    rw [e]
    omega
theorem RMul.done {p q os : List Nat} (h : RMul p q os p.length 0 0) : val os = val p * val q := by
  obtain ⟨_, _, _, _, h5⟩ := h
  rw [List.take_length] at h5
  simpa [val] using h5
theorem getD_set_ne (l : List Nat) (k j x : Nat) (h : k ≠ j) : (l.set k x).getD j 0 = l.getD j 0 := by
  rw [List.getD_eq_getElem?_getD, List.getElem?_set_ne h, ← List.getD_eq_getElem?_getD]
theorem getD_of_get {l : List Nat} {k x : Nat} (h : k < l.length) (hx : l[k] = x) : l.getD k 0 = x := by simp [List.getD, h, hx]
theorem get_of_getD {l : List Nat} {k x : Nat} (h : k < l.length) (hx : l.getD k 0 = x) : l[k] = x := by simpa [List.getD, h] using hx
theorem getD_set_self (l : List Nat) (k x : Nat) (h : k < l.length) : (l.set k x).getD k 0 = x := by simp [List.getD, h]
theorem set_same (l : List Nat) (k x : Nat) (h : l.getD k 0 = x) : l.set k x = l := by
  by_cases hk : k < l.length
  · have := get_of_getD hk h
    subst this
    exact List.set_getElem_self hk
  · exact List.set_eq_of_length_le (by omega)
/-- What has been shifted so far, by q words and r bits. -/
def RUp (p os : List Nat) (q r i : Nat) : Prop := os.length = p.length + q + 1 ∧ W64 os ∧ os.getD (i + q) 0 < 2 ^ r ∧ (∀ j, i + q < j → os.getD j 0 = 0) ∧ val os = 18446744073709551616 ^ q * (val (p.take i) * 2 ^ r)
theorem RUp.start (p : List Nat) (q r : Nat) : RUp p (List.replicate (p.length + q + 1) 0) q r 0 := by
  have hz : ∀ j, (List.replicate (p.length + q + 1) 0).getD j 0 = 0 := by
    intro j
    rw [List.getD_eq_getElem?_getD, List.getElem?_replicate]
    split <;> rfl
  refine ⟨by simp, w64_zeros _, by rw [hz]; exact Nat.two_pow_pos _, fun j _ => hz j, by simp [val_zeros, val]⟩
theorem RUp.step {p os : List Nat} {q r i x o z t : Nat} (h : RUp p os q r i) (hi : i < p.length) (hx : p[i] = x) (ho : os.getD (i + q) 0 = o) (hs : z + 18446744073709551616 * t = x * 2 ^ r + o) (bz : z < 18446744073709551616) (bt : t < 2 ^ r) (hr : r < 64) :
    RUp p ((os.set (i + q) z).set (i + q + 1) t) q r (i + 1) := by
  obtain ⟨h1, h2, h3, h4, h5⟩ := h
  have hl : i + q < os.length := by omega
  have hl1 : i + q + 1 < (os.set (i + q) z).length := by rw [List.length_set]; omega
  have bt2 : t < 18446744073709551616 := by
    have : 2 ^ r ≤ 2 ^ 63 := Nat.pow_le_pow_right (by omega) (by omega)
    omega
  refine ⟨by simpa using h1, w64_set (w64_set h2 _ _ bz) _ _ bt2, ?_, fun j hj => ?_, ?_⟩
  · rw [show i + 1 + q = i + q + 1 by omega, getD_set_self _ _ _ hl1]; exact bt
  · rw [getD_set_ne _ _ _ _ (by omega), getD_set_ne _ _ _ _ (by omega)]; exact h4 j (by omega)
  · have v1 := val_set os (i + q) z hl
    have v2 := val_set (os.set (i + q) z) (i + q + 1) t hl1
    have e1 := get_of_getD hl ho
    have e2 : (os.set (i + q) z)[i + q + 1] = 0 := get_of_getD hl1 (by rw [getD_set_ne _ _ _ _ (by omega)]; exact h4 _ (by omega))
    rw [e1] at v1
    rw [e2, Nat.pow_succ] at v2
    rw [val_take_succ p i hi, hx]
    rw [Nat.pow_add 18446744073709551616 i q] at v1 v2
    rw [h5] at v1
    generalize val ((os.set (i + q) z).set (i + q + 1) t) = A at *
    generalize val (os.set (i + q) z) = C at *
    generalize 18446744073709551616 ^ i = I at *
    generalize 18446744073709551616 ^ q = Q at *
    generalize val (List.take i p) = V at *
    generalize 2 ^ r = R at *
    clear h1 h2 h3 h4 h5 e1 e2 hl hl1 bt2 bz bt
    have e3 : I * Q * (z + 18446744073709551616 * t) = I * Q * (x * R + o) := by rw [hs]
    grind
theorem RUp.done {p os : List Nat} {q r : Nat} (h : RUp p os q r p.length) : val os = val p * 2 ^ (64 * q + r) := by
  obtain ⟨_, _, _, _, h5⟩ := h
  rw [List.take_length] at h5
  rw [h5, Nat.pow_add, Nat.pow_mul, show (2 : Nat) ^ 64 = 18446744073709551616 from rfl]
  generalize 18446744073709551616 ^ q = Q
  grind
theorem or_comm' (x y : Int) : bits .or .u64 x y = bits .or .u64 y x := by
  show IntKind.u64.wrap ((BitVec.ofInt 64 x ||| BitVec.ofInt 64 y).toNat : Int) = IntKind.u64.wrap ((BitVec.ofInt 64 y ||| BitVec.ofInt 64 x).toNat : Int)
  rw [BitVec.or_comm]
theorem or_zero' (t : Nat) (h : t < 18446744073709551616) : bits .or .u64 0 (t : Int) = (t : Int) := by
  have e : (2 : Nat) ^ 64 = 18446744073709551616 := by decide
  have := or_sum 0 t 64 (by omega) (by rw [e]; exact h) (by rw [Nat.zero_mul]; omega)
  rw [Nat.zero_mul, Nat.zero_add] at this
  exact this
/-- A word shifted up and added to bits below. -/
theorem shl_or (x s c : Nat) (hs : s < 64) (hx : x < 18446744073709551616) (hc : c < 2 ^ s) :
    ∃ l t z : Nat, IntKind.u64.wrap ((x : Int) * 2 ^ s) = (l : Int) ∧ bits .or .u64 (c : Int) (l : Int) = (z : Int) ∧ (x : Int) / 2 ^ (64 - s) = (t : Int) ∧ bits .or .u64 0 (t : Int) = (t : Int) ∧ Hid (z + 18446744073709551616 * t = x * 2 ^ s + c ∧ z < 18446744073709551616 ∧ t < 2 ^ s ∧ t < 18446744073709551616) := by
  obtain ⟨l, t, z, h1, h2, h3, h4⟩ := shl_parts x s c hs hx hc
  have ht : t < 18446744073709551616 := by
    have h5 := h4.out.2.2
    have : 2 ^ s ≤ 2 ^ 63 := Nat.pow_le_pow_right (by omega) (by omega)
    omega
  exact ⟨l, t, z, h1, by rw [or_comm']; exact h2, h3, or_zero' t ht, ⟨h4.out.1, h4.out.2.1, h4.out.2.2, ht⟩⟩
/-- What has been halved so far. -/
def RHalf (p os : List Nat) (i : Nat) : Prop := os.length = p.length ∧ W64 os ∧ os.drop i = p.drop i ∧ 2 * val (os.take i) + p.getD 0 0 % 2 = val (p.take i) + 18446744073709551616 ^ i * (p.getD i 0 % 2)
theorem RHalf.start (p : List Nat) (h : W64 p) : RHalf p p 0 := ⟨rfl, h, rfl, by simp [val]⟩
theorem RHalf.step {p os : List Nat} {i x z : Nat} (h : RHalf p os i) (hi : i < p.length) (hx : p[i] = x) (hz : z = x / 2 + 9223372036854775808 * (p.getD (i + 1) 0 % 2)) (bx : x < 18446744073709551616) : RHalf p (os.set i z) (i + 1) := by
  obtain ⟨h1, h2, h3, h4⟩ := h
  refine ⟨by simpa using h1, w64_set h2 _ _ (by omega), by rw [drop_set]; exact (drop_get h3 (by omega) hi).2, ?_⟩
  rw [val_set_take _ _ _ (by omega), val_take_succ p i hi, hx, Nat.pow_succ]
  rw [getD_of_get hi hx] at h4
  have e := Nat.div_add_mod x 2
  generalize p.getD (i + 1) 0 % 2 = y at *
  generalize p.getD 0 0 % 2 = f at *
  generalize val (os.take i) = A at *
  generalize val (p.take i) = C at *
  generalize 18446744073709551616 ^ i = I at *
  generalize x % 2 = m at *
  generalize x / 2 = d at *
  subst e
  subst hz
  clear h1 h2 h3 bx hi hx
  grind
theorem RHalf.done {p os : List Nat} (h : RHalf p os p.length) : val os = val p / 2 := by
  obtain ⟨h1, _, _, h4⟩ := h
  rw [List.take_length, List.take_of_length_le (by omega)] at h4
  have : p.getD p.length 0 = 0 := by simp [List.getD]
  rw [this] at h4
  generalize 18446744073709551616 ^ p.length = I at *
  cases p with
  | nil => cases os with
    | nil => rfl
    | cons y r => simp at h1
  | cons y r =>
    simp only [val] at *
    simp only [List.getD_cons_zero] at h4
    omega
/-- The number of bits. -/
def Size (n s : Nat) : Prop := n < 2 ^ s ∧ (n ≠ 0 → 1 ≤ s ∧ 2 ^ (s - 1) ≤ n) ∧ (n = 0 → s = 0)
theorem size_words (l : List Nat) (x k : Nat) (hl : W64 l) (h1 : x < 2 ^ k) (h2 : 1 ≤ k) (h3 : 2 ^ (k - 1) ≤ x) : Size (val (l ++ [x])) (64 * l.length + k) := by
  have e : 18446744073709551616 ^ l.length = 2 ^ (64 * l.length) := by rw [Nat.pow_mul]
  have hv := val_lt l hl
  rw [val_snoc]
  rw [e] at hv ⊢
  have e1 : 2 ^ (64 * l.length + k) = 2 ^ (64 * l.length) * 2 ^ k := Nat.pow_add _ _ _
  have e2 : 2 ^ (64 * l.length + k - 1) = 2 ^ (64 * l.length) * 2 ^ (k - 1) := by rw [← Nat.pow_add]; congr 1; omega
  have p1 := Nat.two_pow_pos (64 * l.length)
  have p2 := Nat.two_pow_pos (k - 1)
  generalize 2 ^ (64 * l.length) = I at *
  refine ⟨?_, fun _ => ⟨by omega, ?_⟩, fun h => ?_⟩
  · rw [e1]
    have : I * (x + 1) ≤ I * 2 ^ k := Nat.mul_le_mul_left _ h1
    rw [Nat.mul_add, Nat.mul_one] at this
    omega
  · rw [e2]
    have : I * 2 ^ (k - 1) ≤ I * x := Nat.mul_le_mul_left _ h3
    omega
  · exfalso
    have : I * 1 ≤ I * x := Nat.mul_le_mul_left _ (by omega)
    omega
/-- A bit that is not set is set. -/
theorem bit_set (l : List Nat) (j s x : Nat) (hj : j < l.length) (hx : l[j] = x) (hl : W64 l) (hs : s < 64) (hd : val l % 2 ^ (64 * j + s + 1) = 0) :
    ∃ z : Nat, bits .or .u64 (x : Int) ((2 ^ s : Nat) : Int) = (z : Int) ∧ Hid (z < 18446744073709551616 ∧ val (l.set j z) = val l + 2 ^ (64 * j + s)) := by
  have bx : x < 18446744073709551616 := by rw [← hx]; exact w64_get hl j hj
  have hv := val_take_drop l j (by omega)
  rw [val_drop l j hj, hx] at hv
  have e : 18446744073709551616 ^ j = 2 ^ (64 * j) := by rw [Nat.pow_mul]
  have ht := val_lt (l.take j) (w64_take hl j)
  rw [List.length_take, Nat.min_eq_left (by omega)] at ht
  have hset := val_set l j
  rw [e] at hv ht hset
  have hdv : 2 ^ (64 * j) * 2 ^ (s + 1) ∣ val l := by rw [← Nat.pow_add]; exact Nat.dvd_of_mod_eq_zero hd
  have e1 : 2 ^ (64 * j + s) = 2 ^ (64 * j) * 2 ^ s := Nat.pow_add _ _ _
  have h64 : (2 : Nat) ^ (s + 1) ∣ 18446744073709551616 := by
    have : (2 : Nat) ^ (s + 1) ∣ 2 ^ 64 := Nat.pow_dvd_pow 2 (by omega)
    exact this
  have p1 := Nat.two_pow_pos (64 * j)
  have h0 : val (l.take j) = 0 := by
    obtain ⟨m, hm⟩ := hdv
    have h1 : (val (l.take j) + 2 ^ (64 * j) * (x + 18446744073709551616 * val (l.drop (j + 1)))) % 2 ^ (64 * j) = 0 := by
      rw [← hv, hm, Nat.mul_assoc, Nat.mul_mod_right]
    rw [Nat.add_mul_mod_self_left, Nat.mod_eq_of_lt ht] at h1
    exact h1
  have hdx : 2 ^ (s + 1) ∣ x := by
    rw [hv, h0, Nat.zero_add] at hdv
    have h1 := Nat.dvd_of_mul_dvd_mul_left p1 hdv
    exact (Nat.dvd_add_left (Nat.dvd_trans h64 (Nat.dvd_mul_right _ _))).1 h1
  obtain ⟨y, hy⟩ := hdx
  have hyx : x = y * 2 ^ (s + 1) := by rw [hy, Nat.mul_comm]
  have hor := or_sum y (2 ^ s) (s + 1) (by omega) (by rw [Nat.pow_succ]; have := Nat.two_pow_pos s; omega) (by rw [← hyx]; exact bx)
  rw [← hyx] at hor
  have hz := hset (x + 2 ^ s) hj
  rw [hx] at hz
  have hw : x + 2 ^ s < 18446744073709551616 := by
    have e3 : (18446744073709551616 : Nat) = 2 ^ (63 - s) * 2 ^ (s + 1) := by rw [← Nat.pow_add, show 63 - s + (s + 1) = 64 by omega]
    have h2 : y * 2 ^ (s + 1) < 2 ^ (63 - s) * 2 ^ (s + 1) := by rw [← e3, ← hyx]; exact bx
    have h3 := Nat.lt_of_mul_lt_mul_right h2
    have h4 : (y + 1) * 2 ^ (s + 1) ≤ 2 ^ (63 - s) * 2 ^ (s + 1) := Nat.mul_le_mul_right _ h3
    rw [← e3, Nat.add_mul, Nat.one_mul, ← hyx, Nat.pow_succ] at h4
    have := Nat.two_pow_pos s
    omega
  refine ⟨x + 2 ^ s, hor, ⟨hw, ?_⟩⟩
  rw [e1]
  rw [Nat.mul_add] at hz
  omega
theorem wd_zeros (n : Nat) : (madeCells (Value.int .u64 0).cells (n * 1)).toList = wd (List.replicate n 0) := by
  rw [Nat.mul_one]
  apply List.ext_getElem
  · simp [madeCells, wd]
  · intro i h1 h2
    simp [madeCells, wd, Value.cells, Nat.mod_one]
theorem words_made {B : Nat} {w : World} {v : Value} {n : Nat} (h : w.ownsRow B 28 1 v n (madeCells (Value.int .u64 0).cells (n * 1)).toList) : Words B w v (List.replicate n 0) := by
  refine ⟨?_, w64_zeros n⟩
  rw [wd_zeros] at h
  simpa using h
theorem mul_word_parts (x y o c : Nat) (bx : x < 18446744073709551616) (by' : y < 18446744073709551616) (bo : o < 18446744073709551616) (bc : c < 18446744073709551616) :
    ∃ h1 l1 c1 l2 h2 c2 l3 h3 : Nat, Hid (x * y / 18446744073709551616 = h1) ∧ Hid (x * y % 18446744073709551616 = l1) ∧ Hid ((l1 + o) % 18446744073709551616 = l2) ∧ Hid ((l1 + o) / 18446744073709551616 = c1) ∧
      IntKind.u64.wrap ((h1 : Int) + (c1 : Int)) = (h2 : Int) ∧ Hid ((l2 + c) % 18446744073709551616 = l3) ∧ Hid ((l2 + c) / 18446744073709551616 = c2) ∧ IntKind.u64.wrap ((h2 : Int) + (c2 : Int)) = (h3 : Int) ∧
      Hid (x * y + o + c = l3 + 18446744073709551616 * h3 ∧ l3 < 18446744073709551616 ∧ h3 < 18446744073709551616) := by
  have hb := mul_word bx by' bo bc
  have hp := prod_le bx by'
  obtain ⟨P, hP⟩ : ∃ P, x * y = P := ⟨_, rfl⟩
  rw [hP] at hb hp ⊢
  clear hP
  refine ⟨_, _, _, _, P / 18446744073709551616 + (P % 18446744073709551616 + o) / 18446744073709551616, _, _, P / 18446744073709551616 + (P % 18446744073709551616 + o) / 18446744073709551616 + ((P % 18446744073709551616 + o) % 18446744073709551616 + c) / 18446744073709551616, rfl, rfl, rfl, rfl, ?_, rfl, rfl, ?_, ⟨?_, ?_, ?_⟩⟩
  · rw [wrap_u64']; omega
  · rw [wrap_u64']; omega
  · omega
  · omega
  · omega
set_option maxRecDepth 100000 in
set_option maxHeartbeats 4000000 in
theorem ref_mul (B C D : Nat) (u v : Value) (n m : Nat) (w : World) (h : Words C w u (limbs n)) (k : Words D w v (limbs m)) (hB : B ≤ w.heap.size) (hn : (limbs n).length ≤ 1000) (hm : (limbs m).length ≤ 1000) :
    Calls Try.prog 101 #[u, v] w (NewWords B (n * m) w) := by
  obtain ⟨i0, hi, hz0, hz1, hz2⟩ := info_parts info_u64
  obtain ⟨p, hp⟩ : ∃ p, limbs n = p := ⟨_, rfl⟩
  obtain ⟨q, hq⟩ : ∃ q, limbs m = q := ⟨_, rfl⟩
  have wp : W64 p := by rw [← hp]; exact limbs_w n
  have wq : W64 q := by rw [← hq]; exact limbs_w m
  have HV : Hid (val p = n ∧ val q = m) := ⟨by rw [← hp, val_limbs], by rw [← hq, val_limbs]⟩
  rw [hp] at h hn
  rw [hq] at k hm
  clear hp hq
  obtain ⟨la, hla⟩ : ∃ la, p.length = la := ⟨_, rfl⟩
  obtain ⟨lb, hlb⟩ : ∃ lb, q.length = lb := ⟨_, rfl⟩
  obtain ⟨N, hN⟩ : ∃ N, la + lb + 1 = N := ⟨_, rfl⟩
  obtain ⟨a, ca, rfl, a1, a2, _⟩ := h.shape la hla
  obtain ⟨b, cb, rfl, b1, b2, _⟩ := k.shape lb hlb
  rw [hla] at hn
  rw [hlb] at hm
  have HA := hide hla
  have HB := hide hlb
  have KA := hide h
  have KB := hide k
  have HZ2 := hide hz2
  have HN := hide hN
  have n1 : la + lb < N := by omega
  have n2 : N ≤ 2001 := by omega
  clear hla hlb h k hz2
  go_enter Try.func101, Try.ntmps101
  go_wp2_with (at_make; refine wpList_make_full _ rfl _ _ 92 rfl w.heap.size 28 i0 (.int .u64 0) 1 Try.underlying92 hi hz0 hz1 _ _ _ _ N rfl rfl (by omega) (by omega) (by rw [HZ2.out]; omega) (by unfold maxLen; omega) (Nat.le_refl _) ?_; intro w1 hown hgr)
  have H1 : Hid (Words w.heap.size w1 (.slice (some ⟨w.heap.size, 0, none⟩) N N) (List.replicate N 0)) := words_made hown
  have E1 := ext_grown hgr (by simp)
  clear hown hgr
  obtain ⟨g, hg⟩ : ∃ g, w.heap.size = g := ⟨_, rfl⟩
  have HG := hide hg
  rw [hg] at H1 hB
  rw [hg]
  clear hg
  go_wp2_with fail
  go_loopw [6] (fun i wr => ∃ (k : Nat) (os : List Nat), i = .int .i64 k ∧ k ≤ la ∧ Hid (RMul p q os k 0 0) ∧ Words g wr (.slice (some ⟨g, 0, none⟩) N N) os ∧ Ext w wr) (fun i _ => la - (intOf i).toNat)
  case atStart => exact ⟨0, List.replicate N 0, rfl, by omega, by have := RMul.start p q; rw [HA.out, HB.out, HN.out] at this; exact this, H1.out, E1⟩
  case round =>
    obtain ⟨k, os, rfl, hk, HR, hW, hE⟩ := hrel
    have HO : Hid (os.length = N) := by rw [← HN.out, ← HA.out, ← HB.out]; exact HR.out.1
    by_cases hkl : k < la
    · obtain ⟨ga, rfl, _, hga, cga, _⟩ := KA.out.at k (by rw [HA.out]; exact hkl)
      obtain ⟨x, hx⟩ : ∃ x, p[k]'(by rw [HA.out]; exact hkl) = x := ⟨_, rfl⟩
      have bx : x < 18446744073709551616 := by rw [← hx]; exact w64_get wp k _
      rw [hx] at cga
      have HX := hide hx
      clear hx
      go_wp2_with fail
      go_loopw [8, 7] (fun j t wr' => ∃ (j' c : Nat) (os : List Nat), j = .int .i64 j' ∧ t = .int .u64 c ∧ j' ≤ lb ∧ c < 18446744073709551616 ∧ Hid (RMul p q os k j' c) ∧ Words g wr' (.slice (some ⟨g, 0, none⟩) N N) os ∧ Ext w wr') (fun j _ _ => lb - (intOf j).toNat)
      case atStart => exact ⟨0, 0, os, rfl, rfl, by omega, by omega, HR, hW, hE⟩
      case round =>
        clear HR hW hE HO
        obtain ⟨j, c, os, rfl, rfl, hj, hc, HR, hW, hE⟩ := hrel
        have HO : Hid (os.length = N) := by rw [← HN.out, ← HA.out, ← HB.out]; exact HR.out.1
        have cgx : wr.cell? ⟨ga, k, none⟩ = _ := (hE.cell (p := ⟨ga, k, none⟩) hga).trans cga
        by_cases hjl : j < lb
        · obtain ⟨gb, rfl, _, hgb, cgb, _⟩ := KB.out.at j (by rw [HB.out]; exact hjl)
          obtain ⟨y, hy⟩ : ∃ y, q[j]'(by rw [HB.out]; exact hjl) = y := ⟨_, rfl⟩
          have by' : y < 18446744073709551616 := by rw [← hy]; exact w64_get wq j _
          rw [hy] at cgb
          have HY := hide hy
          clear hy
          have cgy : wr.cell? ⟨gb, j, none⟩ = _ := (hE.cell (p := ⟨gb, j, none⟩) hgb).trans cgb
          obtain ⟨g', e', _, hg', cg, fg⟩ := hW.at (k + j) (by rw [HO.out]; omega)
          obtain rfl : g = g' := by injection e' with e'; injection e'
          obtain ⟨o, ho⟩ : ∃ o, os[k + j]'(by rw [HO.out]; omega) = o := ⟨_, rfl⟩
          have bo : o < 18446744073709551616 := by rw [← ho]; exact w64_get hW.2 _ _
          rw [ho] at cg
          obtain ⟨h1, l1, c1, l2, h2, c2, l3, h3, e1, e2, e3, e4, e5, e6, e7, e8, e9⟩ := mul_word_parts x y o c bx by' bo hc
          have HS : Hid (RMul p q (os.set (k + j) l3) k (j + 1) h3) := HR.out.step (by rw [HA.out]; exact hkl) (by rw [HB.out]; exact hjl) HX.out HY.out (by rw [HO.out]; omega) ho bx by' e9.out.1 e9.out.2.1
          have r1 := add64_eq0 l1 o l2 c1 e3.out e4.out
          have r2 := add64_eq0 l2 c l3 c2 e6.out e7.out
          have HW := hide (fun n => (hW.ext (ext_drewN wr n)).set HO.out (k + j) l3 e9.out.2.1)
          have HE := hide (fun n => ext_set (hE.trans (ext_drewN wr n)) (g := g) (by rw [HG.out]; exact Nat.le_refl _) (k + j) (.int .u64 (l3 : Int)))
          have b3 := e9.out.2.2
          have bN : k + j < N := by omega
          clear ho HO hW HR
          go_wp2_with fail
          go_quiet ((go_at_call 103; exact Calls.quiet_of_same ((b_mul64 x y h1 l1 _ bx by' e1 e2).mono fun _ _ h => ⟨h.1, h.2.symm⟩)))
          go_wp2_with fail
          exact ⟨⟨j + 1, _, _, by go_num, rfl, by omega, b3, HS, HW.out _, HE.out _⟩, by simp [intOf]; omega⟩
        · obtain rfl : j = lb := by omega
          obtain ⟨g', e', _, hg', cg, fg⟩ := hW.at (k + j) (by rw [HO.out]; omega)
          obtain rfl : g = g' := by injection e' with e'; injection e'
          obtain ⟨o, ho⟩ : ∃ o, os[k + j]'(by rw [HO.out]; omega) = o := ⟨_, rfl⟩
          rw [ho] at cg
          have HS : Hid (RMul p q (os.set (k + j) c) (k + 1) 0 0) := by
            have h := HR.out
            rw [← HB.out] at h ⊢
            exact h.row (by rw [HA.out]; exact hkl)
          have HW := hide (hW.set HO.out (k + j) c hc)
          have HE := hide (ext_set hE (g := g) (by rw [HG.out]; exact Nat.le_refl _) (k + j) (.int .u64 (c : Int)))
          have bN : k + j < N := by omega
          clear ho HO hW HR
          go_wp2_with fail
          exact ⟨⟨k + 1, _, by go_num, by omega, HS, HW.out, HE.out⟩, by simp [intOf]; omega⟩
    · obtain rfl : k = la := by omega
      have H2 : Hid (val os = n * m) := by
        have h := HR.out
        rw [← HA.out] at h
        have h2 := h.done
        rw [HV.out.1, HV.out.2] at h2
        exact h2
      go_wp2_with (go_at_call 86; refine (trim_any _ _ _ _ hW).mono ?_; rintro e w' ⟨v3, rfl, hv3, rfl⟩)
      go_ret
      exact ⟨_, rfl, by rw [← H2.out]; exact hv3.base hB, hE⟩
theorem quo64 (k q r : Nat) (h : k = 64 * q + r) (hr : r < 64) : (k : Int).tdiv 64 = (q : Int) ∧ (k : Int) / 64 = (q : Int) ∧ (k : Int).tmod 64 = (r : Int) ∧ (k : Int) % 64 = (r : Int) := by
  have h1 : (k : Int).tdiv 64 = (k : Int) / 64 := Int.tdiv_eq_ediv_of_nonneg (by omega)
  have h2 : (k : Int).tmod 64 = (k : Int) % 64 := Int.tmod_eq_emod_of_nonneg (by omega)
  rw [h1, h2]
  omega
set_option maxRecDepth 100000 in
set_option maxHeartbeats 4000000 in
theorem ref_up (B C : Nat) (u : Value) (n k : Nat) (w : World) (h : Words C w u (limbs n)) (hB : B ≤ w.heap.size) (hn : (limbs n).length ≤ 1000) (hk : k ≤ 100000) :
    Calls Try.prog 88 #[u, .int .i64 (k : Int)] w (NewWords B (n * 2 ^ k) w) := by
  obtain ⟨i0, hi, hz0, hz1, hz2⟩ := info_parts info_u64
  obtain ⟨p, hp⟩ : ∃ p, limbs n = p := ⟨_, rfl⟩
  have wp : W64 p := by rw [← hp]; exact limbs_w n
  have HV : Hid (val p = n) := by rw [← hp]; exact val_limbs n
  rw [hp] at h hn
  clear hp
  obtain ⟨la, hla⟩ : ∃ la, p.length = la := ⟨_, rfl⟩
  obtain ⟨q, r, hqr, hr⟩ : ∃ q r, k = 64 * q + r ∧ r < 64 := ⟨k / 64, k % 64, by omega, by omega⟩
  obtain ⟨N, hN⟩ : ∃ N, la + q + 1 = N := ⟨_, rfl⟩
  obtain ⟨a, ca, rfl, a1, a2, _⟩ := h.shape la hla
  rw [hla] at hn
  obtain ⟨t1, t2, t3, t4⟩ := quo64 k q r hqr hr
  have HA := hide hla
  have KA := hide h
  have HZ2 := hide hz2
  have HN := hide hN
  have HQ := hide hqr
  have n1 : la + q < N := by omega
  have n2 : N ≤ 100000 := by omega
  have n3 : q ≤ 10000 := by omega
  clear hla h hz2 hqr
  go_enter Try.func88, Try.ntmps88
  go_wp2_with (at_make; refine wpList_make_full _ rfl _ _ 92 rfl w.heap.size 28 i0 (.int .u64 0) 1 Try.underlying92 hi hz0 hz1 _ _ _ _ N rfl rfl (by omega) (by omega) (by rw [HZ2.out]; omega) (by unfold maxLen; omega) (Nat.le_refl _) ?_; intro w1 hown hgr)
  have H1 : Hid (Words w.heap.size w1 (.slice (some ⟨w.heap.size, 0, none⟩) N N) (List.replicate N 0)) := words_made hown
  have E1 := ext_grown hgr (by simp)
  clear hown hgr hN
  obtain ⟨g, hg⟩ : ∃ g, w.heap.size = g := ⟨_, rfl⟩
  have HG := hide hg
  rw [hg] at H1 hB
  rw [hg]
  clear hg
  go_wp2_with fail
  go_loopw [6] (fun i wr => ∃ (j : Nat) (os : List Nat), i = .int .i64 j ∧ j ≤ la ∧ Hid (RUp p os q r j) ∧ Words g wr (.slice (some ⟨g, 0, none⟩) N N) os ∧ Ext w wr) (fun i _ => la - (intOf i).toNat)
  case atStart => exact ⟨0, List.replicate N 0, rfl, by omega, by have := RUp.start p q r; rw [HA.out, HN.out] at this; exact this, H1.out, E1⟩
  case round =>
    obtain ⟨j, os, rfl, hj, HR, hW, hE⟩ := hrel
    have HO : Hid (os.length = N) := by rw [← HN.out, ← HA.out]; exact HR.out.1
    by_cases hjl : j < la
    · obtain ⟨ga, rfl, _, hga, cga, _⟩ := KA.out.at j (by rw [HA.out]; exact hjl)
      obtain ⟨x, hx⟩ : ∃ x, p[j]'(by rw [HA.out]; exact hjl) = x := ⟨_, rfl⟩
      have bx : x < 18446744073709551616 := by rw [← hx]; exact w64_get wp j _
      rw [hx] at cga
      have HX := hide hx
      clear hx
      have cgx : wr.cell? ⟨ga, j, none⟩ = _ := (hE.cell (p := ⟨ga, j, none⟩) hga).trans cga
      have hne : ga ≠ g := by have := HG.out; omega
      obtain ⟨g', e', _, hg', cg, fg⟩ := hW.at (j + q) (by rw [HO.out]; omega)
      obtain rfl : g = g' := by injection e' with e'; injection e'
      obtain ⟨g', e', _, _, cg1, fg1⟩ := hW.at (j + q + 1) (by rw [HO.out]; omega)
      obtain rfl : g = g' := by injection e' with e'; injection e'
      obtain ⟨o, ho⟩ : ∃ o, os[j + q]'(by rw [HO.out]; omega) = o := ⟨_, rfl⟩
      have ho1 : os[j + q + 1]'(by rw [HO.out]; omega) = 0 := get_of_getD (by rw [HO.out]; omega) (HR.out.2.2.2.1 _ (by omega))
      rw [ho] at cg
      rw [ho1] at cg1
      have HOO : Hid (os.getD (j + q) 0 = o) := getD_of_get (by rw [HO.out]; omega) ho
      obtain ⟨l, t, z, z1, z2, z3, z4, HZ⟩ := shl_or x r o hr bx (by rw [← HOO.out]; exact HR.out.2.2.1)
      have HS := hide (HR.out.step (by rw [HA.out]; exact hjl) HX.out HOO.out HZ.out.1 HZ.out.2.1 HZ.out.2.2.1 hr)
      have bN : j + q < N := by omega
      have bN1 : j + q + 1 < N := by omega
      clear ho ho1
      by_cases hr0 : r = 0
      · have hr1 : ¬ ((0 : Int) < (r : Int)) := by omega
        have HT : Hid (t = 0) := by
          have := HZ.out.2.2.1
          rw [hr0] at this
          unfold Hid; omega
        have HSS : Hid ((os.set (j + q) z).set (j + q + 1) t = os.set (j + q) z) := by
          rw [HT.out]
          exact set_same _ _ _ (by rw [getD_set_ne _ _ _ _ (by omega)]; exact HR.out.2.2.2.1 _ (by omega))
        have HW := hide (hW.set HO.out (j + q) z HZ.out.2.1)
        have HE := hide (ext_set hE (g := g) (by rw [HG.out]; exact Nat.le_refl _) (j + q) (.int .u64 (z : Int)))
        have HR0 := hide hr0
        clear hr0
        go_wp2_with fail
        go_region
        go_wp2_with fail
        exact ⟨⟨j + 1, _, by go_num, by omega, by rw [← HSS.out]; exact HS, HW.out, HE.out.trans (ext_drew _)⟩, by simp [intOf]; omega⟩
      · have hr1 : (0 : Int) < (r : Int) := by omega
        have HW := hide ((hW.set HO.out (j + q) z HZ.out.2.1).set (by rw [List.length_set]; exact HO.out) (j + q + 1) t HZ.out.2.2.2)
        have HE := hide (ext_set (ext_set hE (g := g) (by rw [HG.out]; exact Nat.le_refl _) (j + q) (.int .u64 (z : Int))) (g := g) (by rw [HG.out]; exact Nat.le_refl _) (j + q + 1) (.int .u64 (t : Int)))
        have HR0 := hide hr0
        clear hr0
        go_wp2_with fail
        go_region
        go_wp2_with fail
        go_region
        go_wp2_with fail
        exact ⟨⟨j + 1, _, by go_num, by omega, HS, HW.out, (HE.out.trans (ext_drew _)).trans (ext_drew _)⟩, by simp [intOf]; omega⟩
    · obtain rfl : j = la := by omega
      have H2 : Hid (val os = n * 2 ^ k) := by
        have h := HR.out
        rw [← HA.out] at h
        have h2 := h.done
        rw [HV.out, ← HQ.out] at h2
        exact h2
      go_wp2_with (go_at_call 86; refine (trim_any _ _ _ _ hW).mono ?_; rintro e w' ⟨v3, rfl, hv3, rfl⟩)
      go_ret
      exact ⟨_, rfl, by rw [← H2.out]; exact hv3.base hB, hE⟩
/-- The slice v does not lie in block g. -/
def Apart (g : Nat) (v : Value) : Prop := ∀ g' n c, v = .slice (some ⟨g', 0, none⟩) n c → g' ≠ g
theorem Words.upd {B g : Nat} {w w' : World} {v : Value} {l : List Nat} (h : Words B w v l) (k : Upd g w w') (ha : Apart g v) : Words B w' v l := by
  refine ⟨?_, h.2⟩
  obtain ⟨h1, h2 | ⟨g', cap, cur, hv, hg, hh, r⟩⟩ := h.1
  · exact ⟨h1, Or.inl h2⟩
  · have hlt := (h.1.lt g' (by rw [hv]; rfl)).2
    exact ⟨h1, Or.inr ⟨g', cap, cur, hv, hg, by rw [k.2.2.2.2 g' hlt (ha _ _ _ hv)]; exact hh, r⟩⟩
theorem Words.apart {B g : Nat} {w : World} {v : Value} {l : List Nat} (h : Words B w v l) (hg : w.heap.size ≤ g) : Apart g v := by
  rintro g' n c rfl
  have := (h.1.lt g' rfl).2
  omega
theorem Words.apart' {B g : Nat} {w : World} {v : Value} {l : List Nat} (h : Words B w v l) (hg : g < B) : Apart g v := by
  rintro g' n c rfl
  have := (h.1.lt g' rfl).1
  omega
def AtWords (B g cap : Nat) (l : List Nat) (w : World) (e : Ending) (w' : World) : Prop := e = .returned (.slice (some ⟨g, 0, none⟩) l.length cap) ∧ Words B w' (.slice (some ⟨g, 0, none⟩) l.length cap) l ∧ w = w'
theorem trim_at (B g cap : Nat) (l : List Nat) (w : World) (h : Words B w (.slice (some ⟨g, 0, none⟩) l.length cap) l) : Calls Try.prog 86 #[.slice (some ⟨g, 0, none⟩) l.length cap] w (AtWords B g cap (limbs (val l)) w) := by
  go_enter Try.func86, Try.ntmps86
  go_wp2_with fail
  go_loop [0] (fun v => ∃ m, v = .slice (some ⟨g, 0, none⟩) m.length cap ∧ Words B w (.slice (some ⟨g, 0, none⟩) m.length cap) m ∧ val m = val l) (fun v => lenOf v)
  case atStart => exact ⟨l, rfl, h, rfl⟩
  case round =>
    obtain ⟨m, rfl, hm, e⟩ := hrel
    rcases nil_or_snoc m with rfl | ⟨r, x, rfl⟩
    · have HE : Hid (limbs (val l) = []) := by rw [← e]; simp [Hid, val, limbs_zero]
      clear e
      go_wp2
      go_ret
      exact ⟨by rw [HE.out]; rfl, by rw [HE.out]; exact hm, rfl⟩
    · obtain ⟨g', cap', e', h1, h2, h3, h4, hc, hf⟩ := hm.pos (r.length + 1) (by simp) (by omega)
      simp only [List.length_append, List.length_cons, List.length_nil, Nat.zero_add, Value.slice.injEq, Option.some.injEq, Addr.mk.injEq, and_true, true_and] at e'
      obtain ⟨rfl, rfl⟩ := e'
      have hx := hc r.length (by simp)
      rw [show (r ++ [x])[r.length]'(by simp) = x by simp] at hx
      have hl : (r ++ [x]).length = r.length + 1 := by simp
      rw [hl] at hm ⊢
      have hpop := hm.pop
      clear hc hf
      by_cases hz : x = 0
      · subst hz
        have e2 : val r = val l := by rw [← e, val_snoc]; simp
        have HE := (show Hid _ from e2)
        clear e e2
        go_wp2
        exact ⟨⟨r, rfl, hpop, HE.out⟩, by simp [lenOf]⟩
      · have hz' : ((x : Int) == 0) = false := by simp; omega
        have e2 : limbs (val (r ++ [x])) = r ++ [x] := limbs_of _ hm.2 (by simp [hz])
        have HE : Hid (limbs (val l) = r ++ [x]) := by rw [← e]; exact e2
        clear e e2
        go_wp2
        go_ret
        exact ⟨by rw [HE.out, hl]; rfl, by rw [HE.out, hl]; exact hm, rfl⟩
/-- The half of a word, with the lowest bit of the next one on top. -/
theorem half_parts (x y : Nat) (hx : x < 18446744073709551616) (hy : y < 18446744073709551616) :
    ∃ h l z : Nat, (x : Int) / 2 = (h : Int) ∧ IntKind.u64.wrap ((y : Int) * 9223372036854775808) = (l : Int) ∧ bits .or .u64 (h : Int) (l : Int) = (z : Int) ∧ Hid (h = x / 2 ∧ z = x / 2 + 9223372036854775808 * (y % 2) ∧ z < 18446744073709551616 ∧ h < 9223372036854775808) := by
  have e63 : (2 : Nat) ^ 63 = 9223372036854775808 := by decide
  obtain ⟨k, b, hk, hb⟩ : ∃ k b, y = 2 * k + b ∧ b < 2 := ⟨y / 2, y % 2, by omega, by omega⟩
  have hyb : y % 2 = b := by omega
  obtain ⟨h, m, hh, hm⟩ : ∃ h m, x = 2 * h + m ∧ m < 2 := ⟨x / 2, x % 2, by omega, by omega⟩
  have hxh : x / 2 = h := by omega
  have h1 : b * 2 ^ 63 < 18446744073709551616 := by rw [e63]; omega
  have ho := or_sum b h 63 (by omega) (by rw [e63]; omega) h1
  rw [e63] at ho
  have hw : IntKind.u64.wrap ((y : Int) * 9223372036854775808) = ((b * 9223372036854775808 : Nat) : Int) := by
    rw [wrap_u64', hk]
    have e : ((2 * k + b : Nat) : Int) * 9223372036854775808 = (b : Int) * 9223372036854775808 + 18446744073709551616 * (k : Int) := by push_cast; omega
    rw [e, Int.add_mul_emod_self_left, Int.natCast_mul]
    exact Int.emod_eq_of_lt (by omega) (by omega)
  rw [hyb, hxh]
  have ho2 := (or_comm' _ _).trans ho
  have h2 : (x : Int) / 2 = (h : Int) := by omega
  have h3 : b * 9223372036854775808 + h = h + 9223372036854775808 * b := (Nat.add_comm _ _).trans (congrArg (h + ·) (Nat.mul_comm _ _))
  have h4 : b * 9223372036854775808 ≤ 1 * 9223372036854775808 := Nat.mul_le_mul_right _ (by omega)
  have h5 : h < 9223372036854775808 := by omega
  have h6 : b * 9223372036854775808 + h < 18446744073709551616 := Nat.lt_of_lt_of_le (Nat.add_lt_add_of_le_of_lt h4 h5) (by decide)
  exact ⟨h, _, _, h2, hw, ho2, ⟨rfl, h3, h6, h5⟩⟩
def HalfRet (B g cap n : Nat) (w : World) (e : Ending) (w' : World) : Prop := e = .returned (.slice (some ⟨g, 0, none⟩) (limbs n).length cap) ∧ Words B w' (.slice (some ⟨g, 0, none⟩) (limbs n).length cap) (limbs n) ∧ Upd g w w'
set_option maxRecDepth 100000 in
set_option maxHeartbeats 4000000 in
theorem ref_half (B g cap n : Nat) (w : World) (h : Words B w (.slice (some ⟨g, 0, none⟩) (limbs n).length cap) (limbs n)) (hn : (limbs n).length ≤ 1000) :
    Calls Try.prog 90 #[.slice (some ⟨g, 0, none⟩) (limbs n).length cap] w (HalfRet B g cap (n / 2) w) := by
  obtain ⟨p, hp⟩ : ∃ p, limbs n = p := ⟨_, rfl⟩
  have wp : W64 p := by rw [← hp]; exact limbs_w n
  have HV : Hid (val p = n) := by rw [← hp]; exact val_limbs n
  rw [hp] at h hn ⊢
  clear hp
  obtain ⟨L, hL⟩ : ∃ L, p.length = L := ⟨_, rfl⟩
  rw [hL] at h hn ⊢
  have HL := hide hL
  have HH := hide h
  obtain ⟨_, _, e', hc1, hc2, _⟩ := h.shape L hL
  simp only [Value.slice.injEq] at e'
  obtain ⟨rfl, _, rfl⟩ := e'
  clear hL h
  go_enter Try.func90, Try.ntmps90
  go_wp2_with fail
  go_loopw [3] (fun i wr => ∃ (j : Nat) (os : List Nat), i = .int .i64 j ∧ j ≤ L ∧ Hid (RHalf p os j) ∧ Words B wr (.slice (some ⟨g, 0, none⟩) L cap) os ∧ Upd g w wr) (fun i _ => L - (intOf i).toNat)
  case atStart => exact ⟨0, p, rfl, by omega, RHalf.start p wp, HH.out, Upd.refl _ _⟩
  case round =>
    obtain ⟨j, os, rfl, hj, HR, hW, hU⟩ := hrel
    have HO : Hid (os.length = L) := by rw [← HL.out]; exact HR.out.1
    by_cases hjl : j < L
    · obtain ⟨g', e', _, _, cg, fg⟩ := hW.at j (by rw [HO.out]; exact hjl)
      obtain rfl : g = g' := by injection e' with e'; injection e'
      obtain ⟨x, hx⟩ : ∃ x, p[j]'(by rw [HL.out]; exact hjl) = x := ⟨_, rfl⟩
      have bx : x < 18446744073709551616 := by rw [← hx]; exact w64_get wp j _
      have hox : os[j]'(by rw [HO.out]; exact hjl) = x := by rw [← hx]; exact (drop_get HR.out.2.2.1 (by rw [HO.out]; exact hjl) (by rw [HL.out]; exact hjl)).1
      rw [hox] at cg
      have HX := hide hx
      clear hx hox
      by_cases hj1 : j + 1 < L
      · obtain ⟨g', e', _, _, cg1, fg1⟩ := hW.at (j + 1) (by rw [HO.out]; exact hj1)
        obtain rfl : g = g' := by injection e' with e'; injection e'
        obtain ⟨y, hy⟩ : ∃ y, p[j + 1]'(by rw [HL.out]; exact hj1) = y := ⟨_, rfl⟩
        have by' : y < 18446744073709551616 := by rw [← hy]; exact w64_get wp (j + 1) _
        have hoy : os[j + 1]'(by rw [HO.out]; exact hj1) = y := by
          have := (drop_get HR.out.2.2.1 (by rw [HO.out]; exact hjl) (by rw [HL.out]; exact hjl)).2
          rw [← hy]; exact (drop_get this (by rw [HO.out]; exact hj1) (by rw [HL.out]; exact hj1)).1
        rw [hoy] at cg1
        obtain ⟨h, l, z, z1, z2, z3, HZ⟩ := half_parts x y bx by'
        have HS := hide (HR.out.step (z := z) (by rw [HL.out]; exact hjl) HX.out (by rw [getD_of_get (by rw [HL.out]; exact hj1) hy]; exact HZ.out.2.1) bx)
        have hW2 := (hW.set HO.out j h (by have := HZ.out.2.2.2; omega)).set (by rw [List.length_set]; exact HO.out) j z HZ.out.2.2.1
        rw [List.set_set] at hW2
        have HW := hide hW2.drew
        clear hW2
        have HU := hide ((hU.set j (.int .u64 (h : Int))).set j (.int .u64 (z : Int)))
        have HY := hide hy
        clear hy hoy
        go_wp2_with fail
        go_region
        go_wp2_with fail
        exact ⟨⟨j + 1, _, by go_num, by omega, HS, HW.out, HU.out.drew⟩, by simp [intOf]; omega⟩
      · obtain ⟨h, l, z, z1, z2, z3, HZ⟩ := half_parts x 0 bx (by omega)
        have hz : z = h := by have h1 := HZ.out.1; have h2 := HZ.out.2.1; omega
        have HS := hide (HR.out.step (z := h) (by rw [HL.out]; exact hjl) HX.out (by rw [show p.getD (j + 1) 0 = 0 by simp [List.getD, show p.length ≤ j + 1 by rw [HL.out]; omega]]; rw [← hz]; exact HZ.out.2.1) bx)
        have HW := hide (hW.set HO.out j h (by have := HZ.out.2.2.2; omega))
        have HU := hide (hU.set j (.int .u64 (h : Int)))
        clear hz z2 z3
        go_wp2_with fail
        exact ⟨⟨j + 1, _, by go_num, by omega, HS, HW.out, HU.out⟩, by simp [intOf]; omega⟩
    · obtain rfl : j = L := by omega
      have H2 : Hid (val os = n / 2) := by
        have h := HR.out
        rw [← HL.out] at h
        rw [h.done, HV.out]
        exact rfl
      have HLO := HO.out
      subst HLO
      go_wp2_with (go_at_call 86; refine (trim_at B g cap os _ hW).mono ?_; rintro e w' ⟨rfl, hv3, rfl⟩; rw [H2.out] at hv3 ⊢)
      go_ret
      exact ⟨rfl, hv3, hU⟩
theorem b_len (x : Nat) (w : World) (hx : x < 18446744073709551616) (h0 : 0 < x) : Calls Try.prog 70 #[.int .u64 (x : Int)] w fun e w' => ∃ s : Nat, e = .returned (.int .i64 (s : Int)) ∧ 1 ≤ s ∧ s ≤ 64 ∧ x < 2 ^ s ∧ 2 ^ (s - 1) ≤ x ∧ w = w' := by
  refine (Go.Proofs.Any.bits_Len64 (P := Try.prog) (ρ := lzRen) { lzLays with } (x : Int) w (by omega) (by omega)).mono ?_
  rintro e w' ⟨rfl, rfl⟩
  obtain ⟨i1, i2, i3⟩ := bitLen_spec x hx
  obtain ⟨j1, j2⟩ := i3 (by omega)
  exact ⟨Lib.bitLen x, by rw [Int.toNat_natCast], j1, i1, i2, j2, rfl⟩
def SizeRet (n : Nat) (w : World) (e : Ending) (w' : World) : Prop := ∃ s : Nat, e = .returned (.int .i64 (s : Int)) ∧ Size n s ∧ s ≤ 64000 ∧ w = w'
set_option maxHeartbeats 4000000 in
theorem ref_size (B n : Nat) (v : Value) (w : World) (h : Words B w v (limbs n)) (hn : (limbs n).length ≤ 1000) : Calls Try.prog 87 #[v] w (SizeRet n w) := by
  obtain ⟨p, hp⟩ : ∃ p, limbs n = p := ⟨_, rfl⟩
  have wp : W64 p := by rw [← hp]; exact limbs_w n
  have HV : Hid (val p = n) := by rw [← hp]; exact val_limbs n
  have hlast := limbs_last n
  rw [hp] at h hn hlast
  clear hp
  rcases nil_or_snoc p with rfl | ⟨r, x, rfl⟩
  · obtain ⟨a, cap, rfl, _⟩ := h.nil
    go_enter Try.func87, Try.ntmps87
    go_wp2_with fail
    go_ret
    exact ⟨0, rfl, ⟨by rw [← HV.out]; simp [val], by rw [← HV.out]; simp [val], fun _ => rfl⟩, by omega, rfl⟩
  · obtain ⟨L, hL⟩ : ∃ L, r.length = L := ⟨_, rfl⟩
    have bx : x < 18446744073709551616 := wp x (by simp)
    have hx0 : 0 < x := by
      rcases Nat.eq_zero_or_pos x with h0 | h0
      · subst h0; simp at hlast
      · exact h0
    obtain ⟨g, cap, rfl, h1, h2, h3, h4, hc, hf⟩ := h.pos (L + 1) (by simp [hL]) (by omega)
    have hcx := hc L (by simp [hL])
    rw [show (r ++ [x])[L]'(by simp [hL]) = x by subst hL; simp] at hcx
    have hL2 : L ≤ 999 := by simp [hL] at hn; omega
    have HL := hide hL
    have wr : W64 r := fun y hy => wp y (by simp [hy])
    clear hc hf hn hlast hL h
    go_enter Try.func87, Try.ntmps87
    go_wp2_with (go_at_call 70; refine (b_len x _ bx hx0).mono ?_; rintro e w' ⟨k, rfl, k1, k2, k3, k4, rfl⟩; have K3 := hide k3; have K4 := hide k4; clear k3 k4)
    go_ret
    exact ⟨64 * L + k, by rfl, by rw [← HV.out, ← HL.out]; exact size_words r x k wr K3.out k1 K4.out, by omega, rfl⟩
/-- What has been divided so far, word by word. -/
def RDiv (p os : List Nat) (y k c : Nat) : Prop := os.length = p.length ∧ W64 os ∧ c < y ∧ val (os.drop k) * y + c = val (p.drop k)
theorem RDiv.start (p : List Nat) (y : Nat) (hy : 0 < y) : RDiv p (List.replicate p.length 0) y p.length 0 :=
  ⟨by simp, w64_zeros _, hy, by rw [List.drop_of_length_le (by simp), List.drop_of_length_le (Nat.le_refl _)]; simp [val]⟩
theorem RDiv.step {p os : List Nat} {y j c x q r : Nat} (h : RDiv p os y (j + 1) c) (hj : j < p.length) (hx : p[j] = x) (bx : x < 18446744073709551616) (hq : (c * 18446744073709551616 + x) / y = q) (hr : (c * 18446744073709551616 + x) % y = r) :
    RDiv p (os.set j q) y j r ∧ q < 18446744073709551616 := by
  obtain ⟨h1, h2, h3, h4⟩ := h
  have hq2 : q < 18446744073709551616 := by
    rw [← hq, Nat.div_lt_iff_lt_mul (by omega)]
    have : (c + 1) * 18446744073709551616 ≤ y * 18446744073709551616 := Nat.mul_le_mul_right _ h3
    omega
  refine ⟨⟨by simpa using h1, w64_set h2 _ _ hq2, by rw [← hr]; exact Nat.mod_lt _ (by omega), ?_⟩, hq2⟩
  have hl : j < (os.set j q).length := by rw [List.length_set]; omega
  rw [val_drop _ j hl, List.getElem_set_self, drop_set, val_drop p j hj, hx, ← h4]
  have e := Nat.div_add_mod (c * 18446744073709551616 + x) y
  rw [hq, hr] at e
  generalize val (os.drop (j + 1)) = V at *
  rw [Nat.add_mul, Nat.mul_assoc, Nat.mul_add]
  rw [Nat.mul_comm q y]
  omega
theorem RDiv.done {p os : List Nat} {y c : Nat} (h : RDiv p os y 0 c) : val os = val p / y ∧ c = val p % y := by
  obtain ⟨_, _, h3, h4⟩ := h
  simp only [List.drop_zero] at h4
  rw [← h4]
  have e1 : (val os * y + c) / y = val os := by rw [Nat.mul_comm, Nat.mul_add_div (by omega), Nat.div_eq_of_lt h3, Nat.add_zero]
  have e2 : (val os * y + c) % y = c := by rw [Nat.mul_comm, Nat.mul_add_mod, Nat.mod_eq_of_lt h3]
  exact ⟨e1.symm, e2.symm⟩
def DivWords (B n m : Nat) (w : World) (e : Ending) (w' : World) : Prop := ∃ v1 v2, e = .returned (.tuple #[v1, v2]) ∧ Words B w' v1 (limbs (n / m)) ∧ Words B w' v2 (limbs (n % m)) ∧ Ext w w'
theorem words_none (B : Nat) (w : World) : Words B w (.slice none 0 0) [] := ⟨⟨by simp [wd], Or.inl ⟨rfl, rfl⟩⟩, by intro x hx; simp at hx⟩
theorem limbs_one (y : Nat) (h0 : 0 < y) (hy : y < 18446744073709551616) : limbs y = [y] := by
  rw [limbs_pos (by omega), Nat.mod_eq_of_lt hy, Nat.div_eq_of_lt hy, limbs_zero]
set_option maxRecDepth 100000 in
set_option maxHeartbeats 4000000 in
theorem ref_div1 (B C D : Nat) (u v : Value) (n y : Nat) (w : World) (h : Words C w u (limbs n)) (k : Words D w v [y]) (hB : B ≤ w.heap.size) (hn : (limbs n).length ≤ 1000) (h0 : 0 < y) :
    Calls Try.prog 65 #[u, v] w (DivWords B n y w) := by
  obtain ⟨i0, hi, hz0, hz1, hz2⟩ := info_parts info_u64
  obtain ⟨p, hp⟩ : ∃ p, limbs n = p := ⟨_, rfl⟩
  have wp : W64 p := by rw [← hp]; exact limbs_w n
  have HV : Hid (val p = n) := by rw [← hp]; exact val_limbs n
  rw [hp] at h hn
  clear hp
  have hy : y < 18446744073709551616 := k.2 y (by simp)
  obtain ⟨la, hla⟩ : ∃ la, p.length = la := ⟨_, rfl⟩
  obtain ⟨a, ca, rfl, a1, a2, _⟩ := h.shape la hla
  obtain ⟨gb, cb, rfl, b1, b2, b3, b4, hcb, _⟩ := k.pos 1 rfl (by omega)
  have cgb := hcb 0 (by simp)
  simp only [List.getElem_cons_zero] at cgb
  rw [hla] at hn
  have HA := hide hla
  have KA := hide h
  have HZ2 := hide hz2
  clear hla h hz2 hcb k
  go_enter Try.func65, Try.ntmps65
  go_wp2_with (at_make; refine wpList_make_full _ rfl _ _ 92 rfl w.heap.size 28 i0 (.int .u64 0) 1 Try.underlying92 hi hz0 hz1 _ _ _ _ la rfl rfl rfl rfl (by rw [HZ2.out]; omega) (by unfold maxLen; omega) (Nat.le_refl _) ?_; intro w1 hown hgr)
  have H1 : Hid (Words w.heap.size w1 (.slice (some ⟨w.heap.size, 0, none⟩) la la) (List.replicate la 0)) := words_made hown
  have E1 := ext_grown hgr (by simp)
  clear hown hgr
  obtain ⟨g, hg⟩ : ∃ g, w.heap.size = g := ⟨_, rfl⟩
  have HG := hide hg
  rw [hg] at H1 hB b4
  rw [hg]
  clear hg
  go_wp2_with fail
  go_loopw [7, 8] (fun t i wr => ∃ (j c : Nat) (os : List Nat), i = .int .i64 ((j : Int) - 1) ∧ t = .int .u64 c ∧ j ≤ la ∧ c < y ∧ Hid (RDiv p os y j c) ∧ Words g wr (.slice (some ⟨g, 0, none⟩) la la) os ∧ Ext w wr) (fun _ i _ => (intOf i + 1).toNat)
  case atStart => exact ⟨la, 0, List.replicate la 0, rfl, rfl, by omega, h0, by have := RDiv.start p y h0; rw [HA.out] at this; exact this, H1.out, E1⟩
  case round =>
    obtain ⟨j, c, os, rfl, rfl, hj, hc, HR, hW, hE⟩ := hrel
    have HO : Hid (os.length = la) := by rw [← HA.out]; exact HR.out.1
    by_cases hj0 : j = 0
    · subst hj0
      have H2 : Hid (val os = n / y ∧ c = n % y) := by have := HR.out.done; rw [HV.out] at this; exact this
      have H3 : Hid (limbs (val [c]) = limbs (n % y)) := by rw [← H2.out.2]; simp [Hid, val]
      have H4 := hide (words_one wr.heap.size wr c wr.heap.size rfl (Nat.le_refl _) (by omega))
      have hE2 := hide (ext_alloc wr (.cells #[.int .u64 (c : Int)] 28))
      go_wp2_with (first
        | (go_at_call 86; (with_reducible refine (trim_any _ _ _ _ hW).mono ?_); rintro e w' ⟨v3, rfl, hv3, rfl⟩; have hv4 := hide (hv3.ext hE2.out))
        | (go_at_call 86; refine (trim_any _ _ _ _ H4.out).mono ?_; rintro e w' ⟨v5, rfl, hv5, rfl⟩))
      go_ret2
      exact ⟨_, _, rfl, by rw [← H2.out.1]; exact hv4.out.base hB, by rw [← H3.out]; exact hv5.base (Nat.le_trans hB (by rw [← HG.out]; exact hE.size)), hE.trans hE2.out⟩
    · obtain ⟨j, rfl⟩ : ∃ i, j = i + 1 := ⟨j - 1, by omega⟩
      have hjl : j < la := by omega
      obtain ⟨ga, rfl, _, hga, cga, _⟩ := KA.out.at j (by rw [HA.out]; exact hjl)
      obtain ⟨x, hx⟩ : ∃ x, p[j]'(by rw [HA.out]; exact hjl) = x := ⟨_, rfl⟩
      have bx : x < 18446744073709551616 := by rw [← hx]; exact w64_get wp j _
      rw [hx] at cga
      have cgx : wr.cell? ⟨ga, j, none⟩ = _ := (hE.cell (p := ⟨ga, j, none⟩) hga).trans cga
      have cgy : wr.cell? ⟨gb, 0, none⟩ = _ := (hE.cell (p := ⟨gb, 0, none⟩) (by rw [HG.out]; exact b4)).trans cgb
      obtain ⟨g', e', _, _, cg, fg⟩ := hW.at j (by rw [HO.out]; exact hjl)
      obtain rfl : g = g' := by injection e' with e'; injection e'
      obtain ⟨o, ho⟩ : ∃ o, os[j]'(by rw [HO.out]; omega) = o := ⟨_, rfl⟩
      rw [ho] at cg
      obtain ⟨q, hq⟩ : ∃ q, (c * 18446744073709551616 + x) / y = q := ⟨_, rfl⟩
      obtain ⟨r, hr⟩ : ∃ r, (c * 18446744073709551616 + x) % y = r := ⟨_, rfl⟩
      have HS := hide (HR.out.step (by rw [HA.out]; exact hjl) hx bx hq hr)
      have br : r < y := HS.out.1.2.2.1
      have HQ := hide hq
      have HRR := hide hr
      clear ho hx hq hr
      go_wp2_with fail
      go_region_with (go_at_call 85; refine (b_div64 c x y q r _ hc hy bx HQ HRR).mono ?_; rintro e w2 ⟨rfl, hE2⟩; have hW2 := hW.drew.ext hE2; have EE2 := hE.trans ((ext_drew _).trans hE2); obtain ⟨g', e', _, _, cg2, fg2⟩ := hW2.at j (by rw [HO.out]; exact hjl); obtain rfl : g = g' := (by injection e' with e'; injection e'))
      all_goals go_wp2_with fail
      all_goals exact ⟨⟨j, r, _, rfl, rfl, by omega, br, HS.out.1, hW2.set HO.out j q HS.out.2, ext_set EE2 (g := g) (by rw [HG.out]; exact Nat.le_refl _) j (.int .u64 (q : Int))⟩, by first | (simp [intOf]; done) | (simp [intOf]; omega)⟩
theorem half_of (m j : Nat) : m * 2 ^ (j + 1) / 2 = m * 2 ^ j := by
  rw [Nat.pow_succ, ← Nat.mul_assoc, Nat.mul_div_cancel _ (by omega)]
theorem apart_at {g gd n c : Nat} (h : g ≠ gd) : Apart gd (.slice (some ⟨g, 0, none⟩) n c) := by
  rintro g' n' c' e
  simp only [Value.slice.injEq, Option.some.injEq, Addr.mk.injEq] at e
  omega
theorem bit_in {j n la : Nat} (h : 2 ^ j ≤ n) (hn : n < 18446744073709551616 ^ la) : j < 64 * la := by
  have e : 18446744073709551616 ^ la = 2 ^ (64 * la) := by rw [Nat.pow_mul]
  rw [e] at hn
  exact (Nat.pow_lt_pow_iff_right (by omega)).1 (Nat.lt_of_le_of_lt h hn)
theorem one_shl (s : Nat) (hs : s < 64) : ∃ t : Nat, IntKind.u64.wrap ((2 : Int) ^ s) = (t : Int) ∧ IntKind.u64.wrap (1 * (2 : Int) ^ s) = (t : Int) ∧ Hid (t = 2 ^ s) := by
  have h1 : 2 ^ s < 18446744073709551616 := Nat.lt_of_le_of_lt (Nat.pow_le_pow_right (by omega) (show s ≤ 63 by omega)) (by decide)
  have h2 : ((2 : Int) ^ s) = ((2 ^ s : Nat) : Int) := by rw [Int.natCast_pow]; rfl
  have h3 : IntKind.u64.wrap ((2 : Int) ^ s) = ((2 ^ s : Nat) : Int) := by
    rw [h2, wrap_u64']
    generalize 2 ^ s = t at *
    omega
  exact ⟨2 ^ s, h3, by rw [Int.one_mul]; exact h3, rfl⟩
theorem size_pos {n s : Nat} (h : Size n s) (h1 : 1 ≤ s) : n ≠ 0 := fun e => by have := h.2.2 e; omega
theorem up_lt {n m s1 s2 z la : Nat} (h1 : Size n s1) (h2 : Size m s2) (hz : s1 = s2 + z) (h3 : 1 ≤ s2) (hl : (limbs n).length = la) : m * 2 ^ z < 18446744073709551616 ^ (la + 1) ∧ n < m * 2 ^ (z + 1) := by
  have hn0 := size_pos h1 (by omega)
  have hm0 := size_pos h2 h3
  obtain ⟨_, i2⟩ := h1.2.1 hn0
  obtain ⟨_, j2⟩ := h2.2.1 hm0
  have hb : n < 18446744073709551616 ^ la := limbs_len_le.1 (by omega)
  have e1 : 2 ^ s1 = 2 * 2 ^ (s1 - 1) := by rw [← Nat.pow_succ']; congr 1; omega
  have e2 : 2 ^ s1 = 2 ^ s2 * 2 ^ z := by rw [hz, Nat.pow_add]
  have e3 : 2 ^ s2 = 2 * 2 ^ (s2 - 1) := by rw [← Nat.pow_succ']; congr 1; omega
  have k1 : m * 2 ^ z < 2 ^ s2 * 2 ^ z := Nat.mul_lt_mul_of_pos_right h2.1 (Nat.two_pow_pos _)
  have k2 : 2 ^ (s2 - 1) * 2 ^ (z + 1) ≤ m * 2 ^ (z + 1) := Nat.mul_le_mul_right _ j2
  have k3 : 2 ^ (s2 - 1) * 2 ^ (z + 1) = 2 ^ s1 := by rw [← Nat.pow_add]; congr 1; omega
  have hn1 := h1.1
  refine ⟨?_, by omega⟩
  rw [Nat.pow_succ]
  generalize 18446744073709551616 ^ la = X at *
  generalize m * 2 ^ z = Y at *
  rw [← e2] at k1
  omega
set_option maxRecDepth 100000 in
set_option maxHeartbeats 8000000 in
theorem ref_div2 (B C D : Nat) (u v : Value) (n m : Nat) (w : World) (h : Words C w u (limbs n)) (k : Words D w v (limbs m)) (hB : B ≤ w.heap.size) (hn : (limbs n).length ≤ 900) (hm : (limbs m).length ≤ 900) (hm2 : 2 ≤ (limbs m).length) :
    Calls Try.prog 65 #[u, v] w (DivWords B n m w) := by
  obtain ⟨i0, hi, hz0, hz1, hz2⟩ := info_parts info_u64
  obtain ⟨la, hla⟩ : ∃ la, (limbs n).length = la := ⟨_, rfl⟩
  obtain ⟨lb, hlb⟩ : ∃ lb, (limbs m).length = lb := ⟨_, rfl⟩
  obtain ⟨a, ca, rfl, a1, a2, _⟩ := h.shape la hla
  obtain ⟨b, cb, rfl, b1, b2, _⟩ := k.shape lb hlb
  rw [hla] at hn
  rw [hlb] at hm hm2
  have HA := hide hla
  have HBB := hide hlb
  have KA := hide h
  have KB := hide k
  have HZ2 := hide hz2
  have hne : ¬ ((lb : Int) = 1) := by omega
  clear hla hlb h k hz2
  go_enter Try.func65, Try.ntmps65
  go_upto_region 2 with (at_make; refine wpList_make_full _ rfl _ _ 92 rfl w.heap.size 28 i0 (.int .u64 0) 1 Try.underlying92 hi hz0 hz1 _ _ _ _ la rfl rfl rfl rfl (by rw [HZ2.out]; omega) (by unfold maxLen; omega) (Nat.le_refl _) ?_; intro w1 hown hgr)
  have H1 : Hid (Words w.heap.size w1 (.slice (some ⟨w.heap.size, 0, none⟩) la la) (List.replicate la 0)) := words_made hown
  have E1 := ext_grown hgr (by simp)
  clear hown hgr
  obtain ⟨g, hg⟩ : ∃ g, w.heap.size = g := ⟨_, rfl⟩
  have HG := hide hg
  rw [hg] at H1 hB
  rw [hg]
  clear hg
  have KA1 := hide (KA.out.ext E1)
  have KB1 := hide (KB.out.ext E1)
  have g1 : g < w1.heap.size := (H1.out.1.lt g rfl).2
  have HE0 := hide (words_empty w1.heap.size w1 w1.heap.size rfl (Nat.le_refl _))
  have hE0 := hide (ext_alloc w1 (.cells #[] 28))
  go_upto_region 10 with (first
    | (at_builtin; refine append_words rfl (.tmp 46) (.tmp 47) rfl w1.heap.size C _ _ [] (limbs n) rfl rfl HE0.out (KA1.out.ext hE0.out) (by simp) (by rw [HA.out]; simp; omega) w1 hE0.out (Nat.le_refl _) ?_; intro v2 w2 hv2 hE2)
    | (go_at_call 86; refine (trim_any _ _ _ _ hv2).mono ?_; rintro e w' ⟨v9, rfl, hv9, rfl⟩))
  have HV9 : Hid (Words w1.heap.size w2 v9 (limbs n)) := by
    have := hv9
    rw [List.nil_append, val_limbs] at this
    exact this
  have KB2 := hide (KB1.out.ext hE2)
  have H12 := hide (H1.out.ext hE2)
  have EE := hide (E1.trans hE2)
  have EE1 := hE2
  clear hv9 hv2 hE2 HE0 hE0 KB1 KA1
  go_upto_region 11 with (first
    | (go_at_call 87; (with_reducible refine (ref_size _ n v9 _ HV9.out (by rw [HA.out]; omega)).mono ?_); rintro e w' ⟨s1, rfl, hs1, bs1, rfl⟩; have HS1 := hide hs1; clear hs1)
    | (go_at_call 87; (with_reducible refine (ref_size _ m _ _ KB2.out (by rw [HBB.out]; omega)).mono ?_); rintro e w' ⟨s2, rfl, hs2, bs2, rfl⟩; have HS2 := hide hs2; clear hs2))
  have hm0 : m ≠ 0 := by
    intro h0
    have := HBB.out
    rw [h0, limbs_zero] at this
    simp at this
    omega
  obtain ⟨h2a, h2b⟩ := HS2.out.2.1 hm0
  by_cases hlt : s1 < s2
  · have hnm : n < m := by
      have h1 := HS1.out.1
      have h2 : 2 ^ s1 ≤ 2 ^ (s2 - 1) := Nat.pow_le_pow_right (by omega) (by omega)
      omega
    have HD : Hid (n / m = 0 ∧ n % m = n) := ⟨Nat.div_eq_of_lt hnm, Nat.mod_eq_of_lt hnm⟩
    have hlt' : (s1 : Int) - (s2 : Int) < 0 := by omega
    clear h2a h2b hnm hlt
    go_wp2_with fail
    go_ret2
    exact ⟨_, _, rfl, by rw [HD.out.1, limbs_zero]; exact words_none _ _, by rw [HD.out.2]; exact HV9.out.base (Nat.le_trans hB (by omega)), EE.out⟩
  · obtain ⟨z, hz⟩ : ∃ z, s1 = s2 + z := ⟨s1 - s2, by omega⟩
    have hz' : (s1 : Int) - (s2 : Int) = (z : Int) := by omega
    rw [hz']
    obtain ⟨u1, u2⟩ := up_lt HS1.out HS2.out hz h2a HA.out
    have U1 := hide u1
    have HZ := hide hz
    have zb : z ≤ 100000 := by omega
    clear u1 h2b hlt hz hz'
    go_upto_region 14 with (go_at_call 88; (with_reducible refine (ref_up w2.heap.size D _ m z _ KB2.out (Nat.le_refl _) (by rw [HBB.out]; omega) zb).mono ?_); rintro e w3 ⟨v11, rfl, hv11, hE3⟩)
    have hup0 : 0 < m * 2 ^ z := Nat.mul_pos (by omega) (Nat.two_pow_pos z)
    obtain ⟨gd, cd, rfl, d1, d2, d3, d4, _⟩ := hv11.pos _ rfl (len_pos _ |>.2 (by omega))
    have hw12 : w1.heap.size ≤ w2.heap.size := by
      have := (H12.out.1.lt g rfl).2
      exact EE1.size
    have A9 : Apart gd v9 := HV9.out.apart d3
    have hgd : g ≠ gd := by omega
    have HV9 := hide (HV9.out.ext hE3)
    have H13 := hide (H12.out.ext hE3)
    have D13 := hide (hv11.base hw12)
    have EE := hide (EE.out.trans hE3)
    have n0 : val (List.replicate la 0) = 0 := val_zeros la
    have HG2 : Hid (w.heap.size ≤ gd) := by rw [HG.out]; unfold Hid; omega
    clear hv11 hE3
    go_wp2_with fail
    go_loopw [9, 11, 12] (fun r d i wr => ∃ (k R : Nat) (os : List Nat), i = .int .i64 ((k : Int) - 1) ∧ k ≤ z + 1 ∧ Hid (R < m * 2 ^ k) ∧ d = .slice (some ⟨gd, 0, none⟩) (limbs (m * 2 ^ k / 2)).length cd ∧ Words w1.heap.size wr r (limbs R) ∧ Apart gd r ∧ Words w1.heap.size wr (.slice (some ⟨gd, 0, none⟩) (limbs (m * 2 ^ k / 2)).length cd) (limbs (m * 2 ^ k / 2)) ∧ Words g wr (.slice (some ⟨g, 0, none⟩) la la) os ∧ Hid (os.length = la ∧ val os * m + R = n ∧ val os % 2 ^ k = 0) ∧ Ext w wr) (fun _ _ i _ => (intOf i + 1).toNat)
    case atStart => exact ⟨z + 1, n, List.replicate la 0, by congr 1; omega, Nat.le_refl _, u2, by rw [half_of], HV9.out, A9, by rw [half_of]; exact D13.out, H13.out, ⟨by simp, by rw [n0]; omega, by rw [n0, Nat.zero_mod]⟩, EE.out⟩
    case round =>
      clear HV9 A9 H13 D13 EE n0
      obtain ⟨k, R, os, rfl, hk, HR, rfl, hr, A9, hd, hq, HO, hE⟩ := hrel
      by_cases hk0 : k = 0
      · subst hk0
        have HR0 : Hid (R < m ∧ val os = n / m ∧ R = n % m) := by
          have h1 := HR.out
          rw [Nat.pow_zero, Nat.mul_one] at h1
          have h2 := HO.out.2.1
          refine ⟨h1, ?_, ?_⟩
          · rw [← h2, Nat.mul_comm, Nat.mul_add_div (by omega), Nat.div_eq_of_lt h1, Nat.add_zero]
          · rw [← h2, Nat.mul_comm, Nat.mul_add_mod, Nat.mod_eq_of_lt h1]
        clear hd
        go_wp2_with (go_at_call 86; (with_reducible refine (trim_any _ _ _ _ hq).mono ?_); rintro e w' ⟨v3, rfl, hv3, rfl⟩)
        go_ret2
        exact ⟨_, _, rfl, by rw [← HR0.out.2.1]; exact hv3.base hB, by rw [← HR0.out.2.2]; exact hr.base (Nat.le_trans hB (by omega)), hE⟩
      · obtain ⟨j, rfl⟩ : ∃ j, k = j + 1 := ⟨k - 1, by omega⟩
        rw [half_of] at hd ⊢
        obtain ⟨T, hT⟩ : ∃ T, m * 2 ^ j = T := ⟨_, rfl⟩
        have hTj : m * 2 ^ j / 2 = T / 2 := by rw [hT]
        have HR2 : Hid (R < 2 * T) := by
          have := HR.out
          rw [Nat.pow_succ, ← Nat.mul_assoc, hT] at this
          unfold Hid; omega
        have hTl : (limbs T).length ≤ 901 := by
          have h1 : T ≤ m * 2 ^ z := by rw [← hT]; exact Nat.mul_le_mul_left _ (Nat.pow_le_pow_right (by omega) (by omega))
          have h2 := U1.out
          exact Nat.le_trans (limbs_len_le.2 (Nat.lt_of_le_of_lt h1 h2)) (by omega)
        have hRl : (limbs R).length ≤ 900 := by
          have h1 : R ≤ n := by have := HO.out.2.1; omega
          have h2 : n < 18446744073709551616 ^ la := limbs_len_le.1 (by rw [HA.out]; exact Nat.le_refl _)
          exact Nat.le_trans (limbs_len_le.2 (Nat.lt_of_le_of_lt h1 h2)) hn
        rw [hT] at hd ⊢
        have HT := hide hT
        have HTJ := hide hTj
        have HTL := hide hTl
        have HRL := hide hRl
        clear hT hTj hTl hRl hk0
        by_cases hlt : R < T
        · have HS : Hid (sgnN R T = -1) := if_pos hlt
          have HN : Hid (R < m * 2 ^ j ∧ val os % 2 ^ j = 0) := by
            refine ⟨by rw [HT.out]; exact hlt, ?_⟩
            have h1 := HO.out.2.2
            have h2 : 2 ^ j ∣ val os := Nat.dvd_trans (Nat.pow_dvd_pow 2 (Nat.le_succ j)) (Nat.dvd_of_mod_eq_zero h1)
            exact Nat.mod_eq_zero_of_dvd h2
          clear hlt
          go_wp2_with (first
            | (go_at_call 89; (with_reducible refine (compare_any _ _ _ _ _ _ _ hr hd).mono ?_); rintro e w4 ⟨rfl, hE4⟩; rw [HS.out]; have hr4 := hr.ext hE4; have hd4 := hd.ext hE4; have hq4 := hq.ext hE4; have hE4 := hide (hE.trans hE4))
            | (go_at_call 90; (with_reducible refine (ref_half _ _ _ _ _ hd4 (Nat.le_trans HTL.out (by omega))).mono ?_); rintro e w5 ⟨rfl, hd5, hU5⟩))
          exact ⟨⟨j, R, os, by first | rfl | (congr 1; omega), by omega, HN.out.1, by rw [HTJ.out], hr4.upd hU5 A9, A9, by rw [HTJ.out]; exact hd5, hq4.upd hU5 (apart_at hgd), ⟨HO.out.1, HO.out.2.1, HN.out.2⟩, hU5.ext hE4.out HG2.out⟩, by first | (simp [intOf]; done) | (simp [intOf]; omega)⟩
        · have h01 : (0 : Int) ≤ sgnN R T := by unfold sgnN; rw [if_neg hlt]; split <;> omega
          obtain ⟨sg, hsg⟩ : ∃ sg, sgnN R T = sg := ⟨_, rfl⟩
          rw [hsg] at h01
          have HS := hide hsg
          clear hsg
          obtain ⟨jq, jr, hjqr, hjr⟩ : ∃ jq jr, j = 64 * jq + jr ∧ jr < 64 := ⟨j / 64, j % 64, by omega, by omega⟩
          obtain ⟨t1, t2, t3, t4⟩ := quo64 j jq jr hjqr hjr
          have hjql : jq < la := by
            have h1 : 2 ^ j ≤ n := by
              have h2 : 1 * 2 ^ j ≤ m * 2 ^ j := Nat.mul_le_mul_right _ (by omega)
              have h3 := HO.out.2.1
              rw [HT.out] at h2
              omega
            have h4 := bit_in h1 (limbs_len_le.1 (by rw [HA.out]; exact Nat.le_refl la))
            omega
          obtain ⟨g', e', _, _, _, _⟩ := hq.at jq (by rw [HO.out.1]; exact hjql)
          obtain rfl : g = g' := by injection e' with e'; injection e'
          obtain ⟨x, hx⟩ : ∃ x, os[jq]'(by rw [HO.out.1]; exact hjql) = x := ⟨_, rfl⟩
          obtain ⟨t, o1, o2, HTT⟩ := one_shl jr hjr
          obtain ⟨zz, o3, HZZ⟩ := bit_set os jq jr x (by rw [HO.out.1]; exact hjql) hx hq.2 hjr (by rw [← hjqr]; exact HO.out.2.2)
          rw [← HTT.out] at o3
          have HN : Hid (R - T < m * 2 ^ j ∧ val (os.set jq zz) * m + (R - T) = n ∧ val (os.set jq zz) % 2 ^ j = 0) := by
            have h1 := HO.out.2.2
            have h2 : 2 ^ j ∣ val os := Nat.dvd_trans (Nat.pow_dvd_pow 2 (Nat.le_succ j)) (Nat.dvd_of_mod_eq_zero h1)
            rw [HZZ.out.2, ← hjqr]
            refine ⟨by rw [HT.out]; have := HR2.out; omega, ?_, Nat.mod_eq_zero_of_dvd ((Nat.dvd_add_right h2).2 (Nat.dvd_refl _))⟩
            have h3 := HO.out.2.1
            rw [Nat.add_mul, Nat.mul_comm (2 ^ j) m, HT.out]
            omega
          have HLT := hide hlt
          have HX := hide hx
          have HJ := hide hjqr
          clear hlt hx hjqr
          go_upto_region 19 with (first
            | (go_at_call 89; (with_reducible refine (compare_any _ _ _ _ _ _ _ hr hd).mono ?_); rintro e w4 ⟨rfl, hE4⟩; rw [HS.out]; have hr4 := hr.ext hE4; have hd4 := hd.ext hE4; have hq4 := hq.ext hE4; have hE4 := hide (hE.trans hE4))
            | (go_at_call 68; refine (ref_sub w4.heap.size _ _ _ _ R T _ hr4 hd4 (Nat.le_refl _) (Nat.le_trans HRL.out (by omega)) (Nat.le_trans HTL.out (by omega)) (by have := HLT.out; omega)).mono ?_; rintro e w5 ⟨v5, rfl, hv5, hE5⟩))
          have hd5 := hd4.ext hE5
          have hq5 := hq4.ext hE5
          have A5 : Apart gd v5 := hv5.apart' (hd4.1.lt gd rfl).2
          have hE6 := hide (hE4.out.trans hE5)
          have hr5 := hv5.base (Nat.le_of_lt (Nat.lt_of_le_of_lt (hd4.1.lt gd rfl).1 (hd4.1.lt gd rfl).2))
          obtain ⟨g', e', _, _, cg, fg⟩ := hq5.at jq (by rw [HO.out.1]; exact hjql)
          obtain rfl : g = g' := by injection e' with e'; injection e'
          rw [HX.out] at cg
          have hq6 := hide (hq5.set HO.out.1 jq zz HZZ.out.1)
          have U6 := (Upd.refl g w5).set jq (.int .u64 (zz : Int))
          have hd6 := hd5.upd U6 (apart_at (Ne.symm hgd))
          have hr6 := hide (hr5.upd U6 (hv5.apart' (hq4.1.lt g rfl).2))
          have E6 := hide (U6.ext hE6.out (by rw [HG.out]; exact Nat.le_refl _))
          clear U6 hv5 hq5 hd5 hr5 hE5 hq4 hr4 hd4
          go_wp2_with (go_at_call 90; (with_reducible refine (ref_half _ _ _ _ _ hd6 (Nat.le_trans HTL.out (by omega))).mono ?_); rintro e w7 ⟨rfl, hd7, hU7⟩)
          exact ⟨⟨j, R - T, os.set jq zz, by first | rfl | (congr 1; omega), by omega, HN.out.1, by rw [HTJ.out], hr6.out.upd hU7 A5, A5, by rw [HTJ.out]; exact hd7, hq6.out.upd hU7 (apart_at hgd), ⟨by rw [List.length_set]; exact HO.out.1, HN.out.2.1, HN.out.2.2⟩, hU7.ext E6.out HG2.out⟩, by first | (simp [intOf]; done) | (simp [intOf]; omega)⟩
end Go.Proofs.Ytdboaogdanahkaa
