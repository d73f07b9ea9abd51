/- subProduct and takeDigit of the program. Conditions: the words lie in memory, in different blocks; the divisor is not 0, and the number is less than it times 2^64. -/
import Derived.Test.YtdboaogdanahkaaDiv1
namespace Go.Proofs.Ytdboaogdanahkaa
set_option linter.unusedVariables false
set_option linter.unusedSimpArgs false
open Go Go.RowKit
/-- What has been subtracted so far of a product by one word. -/
def SubMul (p q : List Nat) (f : Nat) (os : List Nat) (k c b : Nat) : Prop := os.length = p.length ∧ os.drop k = p.drop k ∧ c < 18446744073709551616 ∧ b ≤ 1 ∧ val (p.take k) + 18446744073709551616 ^ k * (c + b) = val (os.take k) + val (q.take k) * f
theorem SubMul.step {p q os : List Nat} {f k c b x y h l l1 c1 s b2 : Nat} (hr : SubMul p q f os k c b) (hk : k < p.length) (hq : k < q.length) (hx : p[k] = x) (hy : q[k] = y) (bx : x < 18446744073709551616) (by' : y < 18446744073709551616) (bf : f < 18446744073709551616)
    (hh : y * f / 18446744073709551616 = h) (hl : y * f % 18446744073709551616 = l) (h1 : (l + c) % 18446744073709551616 = l1) (h2 : (l + c) / 18446744073709551616 = c1) (h3 : (x + 18446744073709551616 - l1 - b) % 18446744073709551616 = s) (h4 : (if x < l1 + b then 1 else 0) = b2) :
    SubMul p q f (os.set k s) (k + 1) (h + c1) b2 ∧ h + c1 < 18446744073709551616 ∧ s < 18446744073709551616 := by
  obtain ⟨r1, r2, r3, rb, r4⟩ := hr
  have hp := prod_le by' bf
  have hb2 : b2 ≤ 1 := by rw [← h4]; split <;> omega
  have e1 : y * f + c = l1 + 18446744073709551616 * (h + c1) := by omega
  have e2 : x + 18446744073709551616 * b2 = s + l1 + b := by rw [← h4]; split <;> omega
  have b' : h + c1 < 18446744073709551616 := by omega
  refine ⟨⟨by simpa using r1, by rw [drop_set]; exact (drop_get r2 (by omega) hk).2, b', hb2, ?_⟩, b', by omega⟩
  rw [val_set_take _ _ _ (by omega), val_take_succ p k hk, val_take_succ q k hq, hx, hy, Nat.pow_succ, Nat.add_mul, Nat.mul_assoc (18446744073709551616 ^ k) y f]
  generalize y * f = t at *
  generalize h + c1 = z at *
  generalize 18446744073709551616 ^ k = K at *
  have e3 : K * (t + c) = K * (l1 + 18446744073709551616 * z) := by rw [e1]
  have e4 : K * (x + 18446744073709551616 * b2) = K * (s + l1 + b) := by rw [e2]
  rw [Nat.mul_add, Nat.mul_add, ← Nat.mul_assoc] at e3 e4
  rw [Nat.mul_add K s l1] at e4
  rw [Nat.mul_add] at r4 ⊢
  omega
theorem sub_end (p os q : List Nat) (f n c b x s b2 : Nat) (hr : SubMul p q f os n c b) (hp : p.length = n + 1) (hq : q.length = n) (hx : ∀ h : n < p.length, p[n] = x) (bx : x < 18446744073709551616) (h3 : (x + 18446744073709551616 - c - b) % 18446744073709551616 = s) (h4 : (if x < c + b then 1 else 0) = b2) :
    val p + 18446744073709551616 ^ (n + 1) * b2 = val (os.set n s) + val q * f ∧ (os.set n s).length = n + 1 ∧ s < 18446744073709551616 ∧ b2 ≤ 1 := by
  obtain ⟨r1, r2, r3, rb, r4⟩ := hr
  have hb2 : b2 ≤ 1 := by rw [← h4]; split <;> omega
  have e2 : x + 18446744073709551616 * b2 = s + c + b := by rw [← h4]; split <;> omega
  refine ⟨?_, by simp; omega, by omega, hb2⟩
  have hn : n < p.length := by omega
  have ho : n < os.length := by omega
  have e5 := val_take_succ p n hn
  have e6 := val_set_take os n s ho
  rw [List.take_of_length_le (by omega)] at e5
  rw [List.take_of_length_le (by simp; omega)] at e6
  rw [List.take_of_length_le (l := q) (by omega)] at r4
  rw [e5, e6, hx hn, Nat.pow_succ]
  generalize 18446744073709551616 ^ n = K at *
  have e4 : K * (x + 18446744073709551616 * b2) = K * (s + c + b) := by rw [e2]
  rw [Nat.mul_add, ← Nat.mul_assoc, Nat.add_assoc, Nat.mul_add K s] at e4
  omega
def SubProdPost (g n : Nat) (T : TypeId) (P p Q q : List Nat) (f : Nat) (w : World) (e : Ending) (w' : World) : Prop :=
  ∃ (c : Nat) (os : List Nat), e = .returned (.int .u64 (c : Int)) ∧ c ≤ 1 ∧ os.length = n + 1 ∧ W64 os ∧ val p + 18446744073709551616 ^ (n + 1) * c = val os + val q * f ∧ Arr w' g T (P ++ os ++ Q) ∧ Upd g w w'
end Go.Proofs.Ytdboaogdanahkaa
/- takeDigit of the program: a digit of a quotient. Conditions: the words lie in memory, in different blocks; the number is less than the divisor times 2^64. -/
namespace Go.Proofs.Ytdboaogdanahkaa
set_option linter.unusedVariables false
set_option linter.unusedSimpArgs false
open Go Go.RowKit
theorem guess_ge (p q : List Nat) (n g : Nat) (hp : p.length = n + 1 + 1) (hq : q.length = n + 1) (wp : W64 p) (h1 : n + 1 < p.length) (h2 : n < p.length) (h3 : n < q.length) (hg : guessV p[n + 1] p[n] q[n] = g) (hlt : val p < val q * 18446744073709551616) :
    val p < (g + 1) * val q ∧ g < 18446744073709551616 := by
  have e1 := val_take_succ p (n + 1) h1
  have e2 := val_take_succ p n h2
  have e3 := val_take_succ q n h3
  rw [List.take_of_length_le (by omega)] at e1
  rw [List.take_of_length_le (by omega)] at e3
  rw [e2] at e1
  have hr := val_lt (p.take n) (w64_take wp n)
  rw [List.length_take, Nat.min_eq_left (by omega)] at hr
  have bl := w64_get wp n h2
  have bh := w64_get wp (n + 1) h1
  generalize p[n + 1] = h at *
  generalize p[n] = l at *
  generalize q[n] = t at *
  unfold guessV at hg
  by_cases ht : t ≤ h
  · rw [if_pos ht] at hg
    subst hg
    rw [Nat.mul_comm]
    exact ⟨hlt, by omega⟩
  · rw [if_neg ht] at hg
    have ht0 : 0 < t := by omega
    have hm := Nat.div_add_mod (h * 18446744073709551616 + l) t
    have hm2 := Nat.mod_lt (h * 18446744073709551616 + l) ht0
    rw [hg] at hm
    have hgb : g < 18446744073709551616 := by
      rw [← hg, Nat.div_lt_iff_lt_mul ht0]
      have h5 : (h + 1) * 18446744073709551616 ≤ t * 18446744073709551616 := Nat.mul_le_mul_right _ (by omega)
      rw [Nat.add_mul] at h5
      rw [Nat.mul_comm 18446744073709551616 t]
      omega
    refine ⟨?_, hgb⟩
    rw [Nat.pow_succ] at e1
    generalize 18446744073709551616 ^ n = K at *
    have h6 : h * 18446744073709551616 + l + 1 ≤ (g + 1) * t := by
      rw [Nat.add_mul, Nat.one_mul, Nat.mul_comm g t]
      omega
    have h7 : K * (h * 18446744073709551616 + l + 1) ≤ K * ((g + 1) * t) := Nat.mul_le_mul_left _ h6
    rw [Nat.mul_add, Nat.mul_add, Nat.mul_one] at h7
    have h8 : K * 18446744073709551616 * h = K * (h * 18446744073709551616) := by rw [Nat.mul_assoc, Nat.mul_comm 18446744073709551616 h]
    have h9 : (g + 1) * val q = (g + 1) * val (q.take n) + K * ((g + 1) * t) := by rw [e3, Nat.mul_add, Nat.mul_left_comm]
    rw [h9, e1, h8]
    omega
/-- .. that reads only, said so. -/
def OneQ (q : Nat) (w : World) (e : Ending) (w' : World) : Prop := e = .returned (.int .u64 (q : Int)) ∧ ∃ n, w' = w.drewN n
theorem b_div64q (hi lo y q r : Nat) (w : World) (h1 : hi < y) (h2 : y < 18446744073709551616) (h3 : lo < 18446744073709551616) (hq : Hid ((hi * 18446744073709551616 + lo) / y = q)) (hr : Hid ((hi * 18446744073709551616 + lo) % y = r)) :
    Calls Try.prog 85 #[.int .u64 (hi : Int), .int .u64 (lo : Int), .int .u64 (y : Int)] w fun e w' => e = .returned (.tuple #[.int .u64 (q : Int), .int .u64 (r : Int)]) ∧ ∃ n, w' = w.drewN n := by
  by_cases h0 : 0 < hi
  · refine (b_div64_big hi lo y w h1 h2 h3 h0).mono ?_
    rintro e w' ⟨rfl, rfl⟩
    exact ⟨by rw [hq.out, hr.out], 0, rfl⟩
  · obtain rfl : hi = 0 := by omega
    refine (b_div64_small lo y w h2 h3 h1).mono ?_
    rintro e w' ⟨n, rfl, rfl⟩
    refine ⟨?_, n, rfl⟩
    have := hq.out
    have := hr.out
    simp only [Nat.zero_mul, Nat.zero_add] at *
    simp [*]
/-- What a guess leaves: too much may have been taken. -/
def TakeRel (R D M : Nat) (os : List Nat) (g b : Nat) : Prop := b ≤ 1 ∧ R + M * b = val os + D * g ∧ R < (g + 1) * D
theorem TakeRel.step {R D M : Nat} {os os2 : List Nat} {g c : Nat} (h : TakeRel R D M os g 1) (hM : val os < M) (hc : c ≤ 1) (he : val os2 + M * c = val os + D) : 0 < g ∧ TakeRel R D M os2 (g - 1) (1 - c) := by
  obtain ⟨_, h2, h3⟩ := h
  rw [Nat.mul_one] at h2
  have hg : 0 < g := by
    rcases Nat.eq_zero_or_pos g with h0 | h0
    · subst h0; simp at h2; omega
    · exact h0
  obtain ⟨k, rfl⟩ : ∃ k, g = k + 1 := ⟨g - 1, by omega⟩
  rw [Nat.mul_add, Nat.mul_one] at h2
  refine ⟨hg, by omega, ?_, ?_⟩
  · rw [Nat.add_sub_cancel]
    rcases (by omega : c = 0 ∨ c = 1) with rfl | rfl
    · simp at he ⊢; omega
    · simp at he ⊢; omega
  · rw [Nat.add_sub_cancel, Nat.mul_comm, Nat.mul_add, Nat.mul_one]; omega
theorem TakeRel.done {R D M : Nat} {os : List Nat} {g : Nat} (h : TakeRel R D M os g 0) : val os = R % D ∧ g = R / D := by
  obtain ⟨_, h2, h3⟩ := h
  rw [Nat.mul_zero, Nat.add_zero] at h2
  have hlt : val os < D := by
    rw [h2, Nat.add_mul, Nat.one_mul, Nat.mul_comm] at h3; omega
  have hD : 0 < D := by omega
  rw [h2, Nat.add_comm]
  constructor
  · rw [Nat.mul_add_mod, Nat.mod_eq_of_lt hlt]
  · rw [Nat.mul_add_div hD, Nat.div_eq_of_lt hlt, Nat.add_zero]
def TakePost (g n : Nat) (T : TypeId) (P p Q q : List Nat) (w : World) (e : Ending) (w' : World) : Prop :=
  ∃ (d : Nat) (os : List Nat), e = .returned (.int .u64 (d : Int)) ∧ d = val p / val q ∧ d < 18446744073709551616 ∧ os.length = n + 1 ∧ W64 os ∧ val os = val p % val q ∧ Arr w' g T (P ++ os ++ Q) ∧ Upd g w w'
end Go.Proofs.Ytdboaogdanahkaa
/- divWords of the program where the divisor is greater, or has one word. Conditions: the words are of 64 bits; the divisor is not 0. -/
namespace Go.Proofs.Ytdboaogdanahkaa
set_option linter.unusedVariables false
set_option linter.unusedSimpArgs false
open Go Go.RowKit
def TwoWords (q r : Nat) (w : World) (e : Ending) (w' : World) : Prop := ∃ a b c d e' f g h : Nat, e = .returned (.tuple #[.agg #[.int .u64 (a : Int), .int .u64 (b : Int), .int .u64 (c : Int), .int .u64 (d : Int)], .agg #[.int .u64 (e' : Int), .int .u64 (f : Int), .int .u64 (g : Int), .int .u64 (h : Int)]]) ∧ W64 [a, b, c, d] ∧ W64 [e', f, g, h] ∧ mag4 a b c d = q ∧ mag4 e' f g h = r ∧ Ext w w'
theorem four_words (w : World) (a b c d e f g h : Nat) : ∃ W, ((((w.alloc (.cells #[.int .u64 (a : Int), .int .u64 (b : Int), .int .u64 (c : Int), .int .u64 (d : Int)] 103)).alloc (.cells #[.int .u64 (e : Int), .int .u64 (f : Int), .int .u64 (g : Int), .int .u64 (h : Int)] 103)).alloc (.cells #[.int .u64 0, .int .u64 0, .int .u64 0, .int .u64 0] 103)).alloc (.cells #[.int .u64 0, .int .u64 0, .int .u64 0, .int .u64 0] 103)) = W ∧
    Arr W w.heap.size 103 [a, b, c, d] ∧ Arr W (w.heap.size + 1) 103 [e, f, g, h] ∧ Arr W (w.heap.size + 1 + 1) 103 [0, 0, 0, 0] ∧ Arr W (w.heap.size + 1 + 1 + 1) 103 [0, 0, 0, 0] ∧ Ext w W := by
  have h := four_new w (.cells #[.int .u64 (a : Int), .int .u64 (b : Int), .int .u64 (c : Int), .int .u64 (d : Int)] 103) (.cells #[.int .u64 (e : Int), .int .u64 (f : Int), .int .u64 (g : Int), .int .u64 (h : Int)] 103) (.cells #[.int .u64 0, .int .u64 0, .int .u64 0, .int .u64 0] 103) (.cells #[.int .u64 0, .int .u64 0, .int .u64 0, .int .u64 0] 103)
  exact ⟨_, rfl, h.1, h.2.1, h.2.2.1, h.2.2.2, (((ext_alloc _ _).trans (ext_alloc _ _)).trans (ext_alloc _ _)).trans (ext_alloc _ _)⟩
end Go.Proofs.Ytdboaogdanahkaa
/- Long division of words: plain facts. No condition; nothing of the program. -/
namespace Go.Proofs.Ytdboaogdanahkaa
set_option linter.unusedVariables false
set_option linter.unusedSimpArgs false
open Go Go.RowKit
/-- What has been divided so far: quotient and rest, and the digits that are still to come. -/
def LongRel (N D : Nat) (R Q : List Nat) (j : Nat) : Prop := R.length = 5 ∧ Q.length = 4 ∧ val Q * D + val R = N ∧ val (R.drop j) < D ∧ Q.take j = List.replicate j 0
theorem val_set_zero (Q : List Nat) (i d : Nat) (hi : i < Q.length) (h0 : Q[i] = 0) : val (Q.set i d) = val Q + 18446744073709551616 ^ i * d := by
  have e1 := val_append (Q.take i) (Q.drop i)
  have e2 := val_append (Q.take i) (d :: Q.drop (i + 1))
  rw [List.take_append_drop] at e1
  have e3 : Q.set i d = Q.take i ++ d :: Q.drop (i + 1) := List.set_eq_take_append_cons_drop.trans (if_pos hi)
  rw [e3, e2, e1, List.drop_eq_getElem_cons hi, h0, val, val, List.length_take, Nat.min_eq_left (by omega), Nat.mul_add, Nat.mul_add]
  omega
theorem seg_zero (D K x y z : Nat) (h : x = y + K * z) (hx : x < D) (hK : D ≤ K) : z = 0 := by
  rcases Nat.eq_zero_or_pos z with h0 | h0
  · exact h0
  · exfalso
    have h1 : K ≤ K * z := Nat.le_mul_of_pos_right K h0
    omega
theorem seg_lt (D a x r : Nat) (ha : a < 18446744073709551616) (hx : x < D) (hr : r = a + 18446744073709551616 * x) : r < D * 18446744073709551616 := by omega
theorem long_seg {N D K : Nat} {R Q : List Nat} {i k : Nat} (h : LongRel N D R Q (i + 1)) (hk : i + k + 1 ≤ 5) (hK : 18446744073709551616 ^ k = K) (hD : D ≤ K) (wR : W64 R) :
    val ((R.drop i).take (k + 1)) = val (R.drop i) ∧ val (R.drop i) < D * 18446744073709551616 ∧ val (R.drop (i + k + 1)) = 0 := by
  obtain ⟨h1, h2, h3, h4, h5⟩ := h
  have hi : i < R.length := by omega
  have e1 := val_drop R i hi
  have e2 := val_take_drop (R.drop (i + 1)) k (by simp; omega)
  rw [List.drop_drop, hK] at e2
  have hz : val (R.drop (i + 1 + k)) = 0 := seg_zero D K _ _ _ e2 h4 hD
  rw [show i + k + 1 = i + 1 + k by omega]
  refine ⟨?_, seg_lt D _ _ _ (w64_get wR i hi) h4 e1, hz⟩
  have e3 := val_take_drop (R.drop i) (k + 1) (by simp; omega)
  rw [List.drop_drop, show i + (k + 1) = i + 1 + k by omega, hz, Nat.mul_zero, Nat.add_zero] at e3
  exact e3.symm
theorem zeros_at (Q : List Nat) (i : Nat) (h : Q.take (i + 1) = List.replicate (i + 1) 0) (hi : i < Q.length) : Q[i] = 0 := by
  have := congrArg (fun l => l[i]?) h
  simp only [List.getElem?_take, Nat.lt_succ_self, if_true] at this
  rw [List.getElem?_eq_getElem hi, List.getElem?_replicate, if_pos (Nat.lt_succ_self i)] at this
  exact Option.some.inj this
theorem long_arith (N D K vq vr a p q r d : Nat) (h3 : vq * D + vr = N) (e : vr = a + K * p) (hp : p = d * D + r) (hq : q = vq + K * d) : q * D + (a + K * r) = N := by
  subst hq
  have h1 : K * p = K * (d * D) + K * r := by rw [hp, Nat.mul_add]
  rw [Nat.add_mul, Nat.mul_assoc]
  omega
theorem long_step {N D K : Nat} {R Q os : List Nat} {i k d : Nat} (h : LongRel N D R Q (i + 1)) (hk : i + k + 1 ≤ 5) (hk2 : 2 ≤ k) (hK : 18446744073709551616 ^ k = K) (hD : D ≤ K) (hD0 : 0 < D) (wR : W64 R) (ho : os.length = k + 1) (hv : val os = val ((R.drop i).take (k + 1)) % D) (hd : d = val ((R.drop i).take (k + 1)) / D) :
    LongRel N D (R.take i ++ os ++ R.drop (i + k + 1)) (Q.set i d) i := by
  obtain ⟨s1, s2, s3⟩ := long_seg h hk hK hD wR
  obtain ⟨h1, h2, h3, h4, h5⟩ := h
  rw [s1] at hv hd
  have hT : (R.take i).length = i := by simp; omega
  have e1 := val_take_drop R i (by omega)
  have hQ : i < Q.length := by omega
  have e4 := val_set_zero Q i d hQ (zeros_at Q i h5 hQ)
  have e5 : val (R.take i ++ os ++ R.drop (i + k + 1)) = val (R.take i) + 18446744073709551616 ^ i * val os := by
    rw [val_append, val_append, s3, hT, Nat.mul_zero, Nat.add_zero]
  refine ⟨by simp [hT, ho]; omega, by simpa using h2, ?_, ?_, ?_⟩
  · rw [e5]
    have hm := Nat.div_add_mod (val (R.drop i)) D
    rw [← hd, ← hv, Nat.mul_comm] at hm
    exact long_arith N D (18446744073709551616 ^ i) _ _ _ _ _ _ d h3 e1 hm.symm e4
  · rw [List.append_assoc, List.drop_append_of_le_length (by omega), List.drop_of_length_le (by omega), List.nil_append, val_append, s3, Nat.mul_zero, Nat.add_zero, hv]
    exact Nat.mod_lt _ hD0
  · rw [List.take_set_of_le (Nat.le_refl _)]
    have := congrArg (List.take i) h5
    rw [List.take_take, Nat.min_eq_left (by omega), List.take_replicate, Nat.min_eq_left (by omega)] at this
    exact this
theorem long_done {n m s : Nat} {R Q : List Nat} (h : LongRel (n * 2 ^ s) (m * 2 ^ s) R Q 0) : val Q = n / m ∧ val R / 2 ^ s = n % m ∧ val R < m * 2 ^ s := by
  obtain ⟨h1, h2, h3, h4, h5⟩ := h
  rw [List.drop_zero] at h4
  have ps := Nat.two_pow_pos s
  have hd : 2 ^ s ∣ val R := by
    have h7 : 2 ^ s ∣ val Q * (m * 2 ^ s) + val R := by rw [h3]; exact Nat.dvd_mul_left _ _
    exact (Nat.dvd_add_right (by rw [← Nat.mul_assoc]; exact Nat.dvd_mul_left _ _)).1 h7
  have hR := Nat.div_mul_cancel hd
  have hlt : val R / 2 ^ s < m := by rw [Nat.div_lt_iff_lt_mul ps]; exact h4
  have hX : n = val Q * m + val R / 2 ^ s := by
    have h8 : n * 2 ^ s = (val Q * m + val R / 2 ^ s) * 2 ^ s := by rw [Nat.add_mul (val Q * m), hR, Nat.mul_assoc]; exact h3.symm
    exact Nat.eq_of_mul_eq_mul_right ps h8
  have hm : 0 < m := Nat.lt_of_le_of_lt (Nat.zero_le _) hlt
  refine ⟨?_, ?_, h4⟩
  · rw [hX, Nat.mul_comm, Nat.mul_add_div hm, Nat.div_eq_of_lt hlt, Nat.add_zero]
  · conv => rhs; rw [hX, Nat.mul_comm, Nat.mul_add_mod, Nat.mod_eq_of_lt hlt]
theorem top_arith (m lo K t s : Nat) (hs : s < 64) (hm : m = lo + K * t) (hlo : lo < K) (ht : t * 2 ^ s < 18446744073709551616) : m * 2 ^ s < K * 18446744073709551616 := by
  have hp := two64 s (by omega)
  have ps := Nat.two_pow_pos s
  have h1 : t < 2 ^ (64 - s) := by
    rw [hp, Nat.mul_comm] at ht
    exact Nat.lt_of_mul_lt_mul_left ht
  have h2 : m < K * (t + 1) := by rw [Nat.mul_add, Nat.mul_one]; omega
  have h3 : m * 2 ^ s < K * (t + 1) * 2 ^ s := Nat.mul_lt_mul_of_pos_right h2 ps
  have h4 : K * (t + 1) * 2 ^ s ≤ K * 2 ^ (64 - s) * 2 ^ s := Nat.mul_le_mul_right _ (Nat.mul_le_mul_left _ h1)
  rw [Nat.mul_assoc K (2 ^ (64 - s)), Nat.mul_comm (2 ^ (64 - s)), ← hp] at h4
  exact Nat.lt_of_lt_of_le h3 h4
theorem top_word (M : List Nat) (m k : Nat) (hM : M.length = 4) (wM : W64 M) (hv : val M = m) (hk : (limbs m).length = k + 1) (hk4 : k < M.length) :
    1 ≤ M[k] ∧ 18446744073709551616 ^ k ≤ m ∧ ∀ s, s < 64 → M[k] * 2 ^ s < 18446744073709551616 → m * 2 ^ s < 18446744073709551616 ^ (k + 1) := by
  have h1 := (limbs_len_le (n := m) (k := k + 1)).1 (by omega)
  have h2 : ¬ m < 18446744073709551616 ^ k := fun e => by have := limbs_len_le.2 e; omega
  have e1 := val_take_drop M (k + 1) (by omega)
  have e2 := val_take_succ M k hk4
  have h3 := val_lt (M.take k) (w64_take wM k)
  rw [List.length_take, Nat.min_eq_left (by omega)] at h3
  rw [hv] at e1
  rw [Nat.pow_succ] at h1 e1
  rw [Nat.pow_succ]
  generalize 18446744073709551616 ^ k = K at *
  have hz : val (M.drop (k + 1)) = 0 := seg_zero (K * 18446744073709551616) (K * 18446744073709551616) m _ _ e1 h1 (Nat.le_refl _)
  rw [hz, Nat.mul_zero, Nat.add_zero, e2] at e1
  refine ⟨?_, by omega, fun s hs ht => top_arith m _ K M[k] s hs e1 h3 ht⟩
  rcases Nat.eq_zero_or_pos M[k] with h | h
  · rw [h, Nat.mul_zero, Nat.add_zero] at e1; omega
  · exact h
theorem up_take (U : List Nat) (r D k : Nat) (hU : U.length = 4) (hk : k ≤ 4) (hv : val U + 115792089237316195423570985008687907853269984665640564039457584007913129639936 * r = D) (hD : D < 18446744073709551616 ^ k) : val (U.take k) = D := by
  have h4 : (18446744073709551616 : Nat) ^ k ≤ 115792089237316195423570985008687907853269984665640564039457584007913129639936 := by rw [← p4]; exact Nat.pow_le_pow_right (by omega) hk
  have e1 := val_take_drop U k (by omega)
  generalize 18446744073709551616 ^ k = K at *
  have hr : r = 0 := by omega
  subst hr
  rw [Nat.mul_zero, Nat.add_zero] at hv
  rw [hv] at e1
  have hz := seg_zero K K D _ _ e1 hD (Nat.le_refl _)
  rw [hz, Nat.mul_zero, Nat.add_zero] at e1
  exact e1.symm
theorem long_init (L : List Nat) (over n m s k : Nat) (hL : L.length = 4) (hv : val L + 115792089237316195423570985008687907853269984665640564039457584007913129639936 * over = n * 2 ^ s) (hn : n < 115792089237316195423570985008687907853269984665640564039457584007913129639936) (hk : k + 1 ≤ 4) (hm : 18446744073709551616 ^ k ≤ m) :
    LongRel (n * 2 ^ s) (m * 2 ^ s) (L ++ [over]) [0, 0, 0, 0] (4 - k) := by
  have ps := Nat.two_pow_pos s
  have e0 : val (L ++ [over]) = n * 2 ^ s := by rw [val_snoc, hL, p4]; exact hv
  have e1 := val_take_drop (L ++ [over]) (4 - k) (by simp [hL]; omega)
  rw [e0] at e1
  refine ⟨by simp [hL], rfl, by simp [val]; rw [val_snoc, hL, p4]; exact hv, ?_, ?_⟩
  · have hp : (115792089237316195423570985008687907853269984665640564039457584007913129639936 : Nat) = 18446744073709551616 ^ (4 - k) * 18446744073709551616 ^ k := by rw [← Nat.pow_add, show 4 - k + k = 4 by omega, p4]
    have h1 : n * 2 ^ s < 115792089237316195423570985008687907853269984665640564039457584007913129639936 * 2 ^ s := Nat.mul_lt_mul_of_pos_right hn ps
    rw [hp, Nat.mul_assoc] at h1
    have h2 : 18446744073709551616 ^ k * 2 ^ s ≤ m * 2 ^ s := Nat.mul_le_mul_right _ hm
    have h3 : 18446744073709551616 ^ (4 - k) * val ((L ++ [over]).drop (4 - k)) < 18446744073709551616 ^ (4 - k) * (18446744073709551616 ^ k * 2 ^ s) := Nat.lt_of_le_of_lt (by rw [e1]; exact Nat.le_add_left _ _) h1
    exact Nat.lt_of_lt_of_le (Nat.lt_of_mul_lt_mul_left h3) h2
  · have : 4 - k = 0 ∨ 4 - k = 1 ∨ 4 - k = 2 ∨ 4 - k = 3 ∨ 4 - k = 4 := by omega
    rcases this with h | h | h | h | h <;> rw [h] <;> rfl
end Go.Proofs.Ytdboaogdanahkaa
