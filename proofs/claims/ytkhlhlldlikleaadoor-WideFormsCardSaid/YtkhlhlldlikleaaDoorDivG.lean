/- subProduct and takeDigit of the program. Conditions: the words lie in memory, in different blocks; the divisor is not 0, and the number is less than it times 2^64. -/
import Derived.Test.YtkhlhlldlikleaaDoorDivF
namespace Go.Proofs.YtkhlhlldlikleaaDoor
set_option linter.unusedVariables false
set_option linter.unusedSimpArgs false
open Go Go.RowKit
/-- What has been subtracted so far of a product by one word. -/
def SubMul (p q : List Nat) (f : Nat) (os : List Nat) (k c b : Nat) : Prop := os.length = p.length ∧ os.drop k = p.drop k ∧ c < 18446744073709551616 ∧ b ≤ 1 ∧ val (p.take k) + 18446744073709551616 ^ k * (c + b) = val (os.take k) + val (q.take k) * f
theorem SubMul.step {p q os : List Nat} {f k c b x y h l l1 c1 s b2 : Nat} (hr : SubMul p q f os k c b) (hk : k < p.length) (hq : k < q.length) (hx : p[k] = x) (hy : q[k] = y) (bx : x < 18446744073709551616) (by' : y < 18446744073709551616) (bf : f < 18446744073709551616)
    (hh : y * f / 18446744073709551616 = h) (hl : y * f % 18446744073709551616 = l) (h1 : (l + c) % 18446744073709551616 = l1) (h2 : (l + c) / 18446744073709551616 = c1) (h3 : (x + 18446744073709551616 - l1 - b) % 18446744073709551616 = s) (h4 : (if x < l1 + b then 1 else 0) = b2) :
    SubMul p q f (os.set k s) (k + 1) (h + c1) b2 ∧ h + c1 < 18446744073709551616 ∧ s < 18446744073709551616 := by
  obtain ⟨r1, r2, r3, rb, r4⟩ := hr
  have hp := prod_le by' bf
  have hb2 : b2 ≤ 1 := by rw [← h4]; split <;> omega
  have e1 : y * f + c = l1 + 18446744073709551616 * (h + c1) := by omega
  have e2 : x + 18446744073709551616 * b2 = s + l1 + b := by rw [← h4]; split <;> omega
  have b' : h + c1 < 18446744073709551616 := by omega
  refine ⟨⟨by simpa using r1, by rw [drop_set]; exact (drop_get r2 (by omega) hk).2, b', hb2, ?_⟩, b', by omega⟩
  rw [val_set_take _ _ _ (by omega), val_take_succ p k hk, val_take_succ q k hq, hx, hy, Nat.pow_succ, Nat.add_mul, Nat.mul_assoc (18446744073709551616 ^ k) y f]
  generalize y * f = t at *
  generalize h + c1 = z at *
  generalize 18446744073709551616 ^ k = K at *
  have e3 : K * (t + c) = K * (l1 + 18446744073709551616 * z) := by rw [e1]
  have e4 : K * (x + 18446744073709551616 * b2) = K * (s + l1 + b) := by rw [e2]
  rw [Nat.mul_add, Nat.mul_add, ← Nat.mul_assoc] at e3 e4
  rw [Nat.mul_add K s l1] at e4
  rw [Nat.mul_add] at r4 ⊢
  omega
theorem sub_end (p os q : List Nat) (f n c b x s b2 : Nat) (hr : SubMul p q f os n c b) (hp : p.length = n + 1) (hq : q.length = n) (hx : ∀ h : n < p.length, p[n] = x) (bx : x < 18446744073709551616) (h3 : (x + 18446744073709551616 - c - b) % 18446744073709551616 = s) (h4 : (if x < c + b then 1 else 0) = b2) :
    val p + 18446744073709551616 ^ (n + 1) * b2 = val (os.set n s) + val q * f ∧ (os.set n s).length = n + 1 ∧ s < 18446744073709551616 ∧ b2 ≤ 1 := by
  obtain ⟨r1, r2, r3, rb, r4⟩ := hr
  have hb2 : b2 ≤ 1 := by rw [← h4]; split <;> omega
  have e2 : x + 18446744073709551616 * b2 = s + c + b := by rw [← h4]; split <;> omega
  refine ⟨?_, by simp; omega, by omega, hb2⟩
  have hn : n < p.length := by omega
  have ho : n < os.length := by omega
  have e5 := val_take_succ p n hn
  have e6 := val_set_take os n s ho
  rw [List.take_of_length_le (by omega)] at e5
  rw [List.take_of_length_le (by simp; omega)] at e6
  rw [List.take_of_length_le (l := q) (by omega)] at r4
  rw [e5, e6, hx hn, Nat.pow_succ]
  generalize 18446744073709551616 ^ n = K at *
  have e4 : K * (x + 18446744073709551616 * b2) = K * (s + c + b) := by rw [e2]
  rw [Nat.mul_add, ← Nat.mul_assoc, Nat.add_assoc, Nat.mul_add K s] at e4
  omega
def SubProdPost (g n : Nat) (T : TypeId) (P p Q q : List Nat) (f : Nat) (w : World) (e : Ending) (w' : World) : Prop :=
  ∃ (c : Nat) (os : List Nat), e = .returned (.int .u64 (c : Int)) ∧ c ≤ 1 ∧ os.length = n + 1 ∧ W64 os ∧ val p + 18446744073709551616 ^ (n + 1) * c = val os + val q * f ∧ Arr w' g T (P ++ os ++ Q) ∧ Upd g w w'
set_option maxHeartbeats 1000000 in
theorem p_subProduct (g o n ca gb ob cb f : Nat) (T : TypeId) (P p Q q : List Nat) (w : World) (hA : Arr w g T (P ++ p ++ Q)) (hP : P.length = o) (hp : p.length = n + 1) (hq : q.length = n) (hB : Reads w gb ob q) (hne : gb ≠ g) (hn : n ≤ 1000) (wp : W64 p) (wq : W64 q) (hf : f < 18446744073709551616) :
    Calls Tryd.prog 90 #[.slice (some ⟨g, o, none⟩) (n + 1) ca, .slice (some ⟨gb, ob, none⟩) n cb, .int .u64 (f : Int)] w (SubProdPost g n T P p Q q f w) := by
  have HP := hide hP
  have Hp := hide hp
  have Hq := hide hq
  have HA := hide hA
  have HB := hide hB
  clear hP hp hq hA hB
  go_enter Tryd.func90, Tryd.ntmps90
  go_wp2_with fail
  go_loopw [16, 7, 8] (fun i t u wr => ∃ (k c b : Nat) (os : List Nat), i = .int .i64 k ∧ t = .int .u64 c ∧ u = .int .u64 b ∧ k ≤ n ∧ c < 18446744073709551616 ∧ b ≤ 1 ∧ Hid (SubMul p q f os k c b) ∧ W64 os ∧ Hid (Arr wr g T (P ++ os ++ Q)) ∧ Upd g w wr) (fun i _ _ _ => n - (intOf i).toNat)
  case atStart => exact ⟨0, 0, 0, p, rfl, rfl, rfl, by omega, by omega, by omega, ⟨rfl, rfl, by omega, by omega, by simp [val]⟩, wp, HA, Upd.refl _ _⟩
  case round =>
    obtain ⟨k, c, b, os, rfl, rfl, rfl, hk, hc, hb, HR, wo, HO, hU⟩ := hrel
    have HL : Hid (os.length = n + 1) := HR.out.1.trans Hp.out
    have hkn : k < os.length := by rw [HL.out]; omega
    have hkp : k < p.length := by rw [Hp.out]; omega
    have cg := HO.out.seg HP.out k hkn
    have fg := HO.out.free (o + k)
    obtain ⟨x, hx⟩ : ∃ x, os[k] = x := ⟨_, rfl⟩
    have hx2 : p[k] = x := by rw [← hx]; exact (drop_get HR.out.2.1 hkn hkp).1.symm
    have bx : x < 18446744073709551616 := by rw [← hx]; exact w64_get wo k hkn
    rw [hx] at cg
    by_cases hkl : k < n
    · have hkq : k < q.length := by rw [Hq.out]; omega
      have cb := (HB.out.upd hU hne).2 k hkq
      obtain ⟨y, hy⟩ : ∃ y, q[k] = y := ⟨_, rfl⟩
      have b_y : y < 18446744073709551616 := by rw [← hy]; exact w64_get wq k hkq
      rw [hy] at cb
      obtain ⟨h, hh⟩ : ∃ h, y * f / 18446744073709551616 = h := ⟨_, rfl⟩
      obtain ⟨l, hl⟩ : ∃ l, y * f % 18446744073709551616 = l := ⟨_, rfl⟩
      obtain ⟨l1, h1⟩ : ∃ l1, (l + c) % 18446744073709551616 = l1 := ⟨_, rfl⟩
      obtain ⟨c1, h2⟩ : ∃ c1, (l + c) / 18446744073709551616 = c1 := ⟨_, rfl⟩
      obtain ⟨s, h3⟩ : ∃ s, (x + 18446744073709551616 - l1 - b) % 18446744073709551616 = s := ⟨_, rfl⟩
      obtain ⟨b2, h4⟩ : ∃ b2, (if x < l1 + b then 1 else 0) = b2 := ⟨_, rfl⟩
      obtain ⟨hS, z1, z2⟩ := HR.out.step hkp hkq hx2 hy bx b_y hf hh hl h1 h2 h3 h4
      have hadd := add64_eq0 l c l1 c1 h1 h2
      have hsub := sub64_eq x l1 b s b2 hb h3 h4
      have hb2 : b2 ≤ 1 := hS.2.2.2.1
      have HHH := hide hh
      have HLL := hide hl
      have HS := hide hS
      have HW := hide (HO.out.segset HP.out k s hkn)
      have HU := hide (hU.set (o + k) (.int .u64 (s : Int)))
      have q1 : (h : Int) + c1 ≤ 18446744073709551615 := by omega
      clear hx hy hx2 hh hl h1 h2 h3 h4 hS
      go_wp2_with (go_at_call 86; refine (b_mul64 y f h l _ b_y hf HHH HLL).mono ?_; rintro e' w' ⟨rfl, rfl⟩)
      exact ⟨⟨k + 1, _, _, _, by go_num, by go_num, rfl, by omega, z1, hb2, HS, w64_set wo _ _ z2, HW, HU.out⟩, by simp [intOf]; omega⟩
    · obtain rfl : k = n := by omega
      obtain ⟨s, h3⟩ : ∃ s, (x + 18446744073709551616 - c - b) % 18446744073709551616 = s := ⟨_, rfl⟩
      obtain ⟨b2, h4⟩ : ∃ b2, (if x < c + b then 1 else 0) = b2 := ⟨_, rfl⟩
      have HE := hide (sub_end p os q f k c b x s b2 HR.out Hp.out Hq.out (fun _ => hx2) bx h3 h4)
      have hsub := sub64_eq x c b s b2 hb h3 h4
      have HW := hide (HO.out.segset HP.out k s hkn)
      have HU := hide (hU.set (o + k) (.int .u64 (s : Int)))
      have hkI : (k : Int) < (k : Int) + 1 := by omega
      clear hx hx2 h3 h4
      go_wp2_with fail
      go_ret
      exact ⟨b2, os.set k s, rfl, HE.out.2.2.2, HE.out.2.1, w64_set wo _ _ HE.out.2.2.1, HE.out.1, HW.out, HU.out⟩
end Go.Proofs.YtkhlhlldlikleaaDoor
