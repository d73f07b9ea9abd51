/- addProduct and mulWords of the program. Condition: the words are of 64 bits. -/
import Derived.Test.YtkhlhlldlikleaaDoorWrdH
import Derived.Test.YtkhlhlldlikleaaDoorBits
namespace Go.Proofs.YtkhlhlldlikleaaDoor
set_option linter.unusedVariables false
set_option linter.unusedSimpArgs false
open Go Go.RowKit
/-- What has been added so far of a product by one word. -/
def MulRel (p q : List Nat) (f : Nat) (os : List Nat) (k c : Nat) : Prop := os.length = p.length ∧ os.drop k = p.drop k ∧ c < 18446744073709551616 ∧ val (os.take k) + 18446744073709551616 ^ k * c = val (p.take k) + val (q.take k) * f
theorem MulRel.step {p q os : List Nat} {f k c x y h l l1 c1 s c2 : Nat} (hr : MulRel p q f os k c) (hk : k < p.length) (hq : k < q.length) (hx : p[k] = x) (hy : q[k] = y) (bx : x < 18446744073709551616) (by' : y < 18446744073709551616) (bf : f < 18446744073709551616)
    (hh : y * f / 18446744073709551616 = h) (hl : y * f % 18446744073709551616 = l) (h1 : (l + c) % 18446744073709551616 = l1) (h2 : (l + c) / 18446744073709551616 = c1) (h3 : (x + l1) % 18446744073709551616 = s) (h4 : (x + l1) / 18446744073709551616 = c2) :
    MulRel p q f (os.set k s) (k + 1) (h + c1 + c2) ∧ h + c1 + c2 < 18446744073709551616 ∧ s < 18446744073709551616 ∧ c1 ≤ 1 ∧ c2 ≤ 1 ∧ l < 18446744073709551616 ∧ l1 < 18446744073709551616 ∧ h < 18446744073709551616 := by
  obtain ⟨r1, r2, r3, r4⟩ := hr
  have hp := prod_le by' bf
  have e : x + y * f + c = s + 18446744073709551616 * (h + c1 + c2) := by omega
  have b : h + c1 + c2 < 18446744073709551616 := by omega
  refine ⟨⟨by simpa using r1, by rw [drop_set]; exact (drop_get r2 (by omega) hk).2, b, ?_⟩, b, by omega, by omega, by omega, by omega, by omega, by omega⟩
  rw [val_set_take _ _ _ (by omega), val_take_succ p k hk, val_take_succ q k hq, hx, hy, Nat.pow_succ]
  rw [Nat.add_mul, Nat.mul_assoc (18446744073709551616 ^ k) y f]
  generalize y * f = t at *
  generalize h + c1 + c2 = z at *
  generalize 18446744073709551616 ^ k = K at *
  have e2 : K * (x + t + c) = K * (s + 18446744073709551616 * z) := by rw [e]
  rw [Nat.mul_add, Nat.mul_add, Nat.mul_add, ← Nat.mul_assoc] at e2
  omega
def AddProdPost (g : Nat) (T : TypeId) (P p Q q : List Nat) (f : Nat) (w : World) (e : Ending) (w' : World) : Prop :=
  ∃ (c : Nat) (os : List Nat), e = .returned (.int .u64 (c : Int)) ∧ c < 18446744073709551616 ∧ os.length = 4 ∧ W64 os ∧ val os + 18446744073709551616 ^ 4 * c = val p + val q * f ∧ Arr w' g T (P ++ os ++ Q) ∧ Upd g w w'
set_option maxHeartbeats 1000000 in
theorem p_addProduct (g o ca a b c d f : Nat) (T : TypeId) (P p Q : List Nat) (w : World) (hA : Arr w g T (P ++ p ++ Q)) (hP : P.length = o) (hp : p.length = 4) (wp : W64 p) (wq : W64 [a, b, c, d]) (hf : f < 18446744073709551616) :
    Calls Tryd.prog 66 #[.slice (some ⟨g, o, none⟩) 4 ca, .agg #[.int .u64 (a : Int), .int .u64 (b : Int), .int .u64 (c : Int), .int .u64 (d : Int)], .int .u64 (f : Int)] w (AddProdPost g T P p Q [a, b, c, d] f w) := by
  have hW := hide (arr_new w 59 [a, b, c, d] #[.int .u64 (a : Int), .int .u64 (b : Int), .int .u64 (c : Int), .int .u64 (d : Int)] rfl)
  have E0 := hide (ext_alloc w (.cells #[.int .u64 (a : Int), .int .u64 (b : Int), .int .u64 (c : Int), .int .u64 (d : Int)] 59))
  have lg := hA.lt
  have HA := hide hA
  obtain ⟨q, hq⟩ : ∃ q, q = [a, b, c, d] := ⟨_, rfl⟩
  rw [← hq] at hW wq
  have Hq : Hid (q.length = 4) := by rw [hq]; exact rfl
  have HP := hide hP
  have Hp := hide hp
  rw [← hq]
  clear hA hP hp hq
  go_enter Tryd.func66, Tryd.ntmps66
  go_wp2_with fail
  go_loopw [14, 7] (fun i t wr => ∃ (k c : Nat) (os : List Nat), i = .int .i64 k ∧ t = .int .u64 c ∧ k ≤ 4 ∧ c < 18446744073709551616 ∧ Hid (MulRel p q f os k c) ∧ W64 os ∧ Hid (Arr wr g T (P ++ os ++ Q)) ∧ Arr wr w.heap.size 59 q ∧ Upd g w wr) (fun i _ _ => 4 - (intOf i).toNat)
  case atStart => exact ⟨0, 0, p, rfl, rfl, by omega, by omega, ⟨rfl, rfl, by omega, by simp [val]⟩, wp, HA.out.ext E0.out, hW.out, E0.out.upd g⟩
  case round =>
    obtain ⟨k, c, os, rfl, rfl, hk, hc, HR, wo, HO, hQ, hU⟩ := hrel
    have HL : Hid (os.length = 4) := HR.out.1.trans Hp.out
    by_cases hk4 : k < 4
    · have hkn : k < os.length := by rw [HL.out]; omega
      have hkp : k < p.length := by rw [Hp.out]; omega
      have hkq : k < q.length := by rw [Hq.out]; omega
      have cg := HO.out.seg HP.out k hkn
      have fg := HO.out.free (o + k)
      have cb := hQ.at k hkq
      obtain ⟨x, hx⟩ : ∃ x, os[k] = x := ⟨_, rfl⟩
      obtain ⟨y, hy⟩ : ∃ y, q[k] = y := ⟨_, rfl⟩
      have hx2 : p[k] = x := by rw [← hx]; exact (drop_get HR.out.2.1 hkn hkp).1.symm
      have bx : x < 18446744073709551616 := by rw [← hx]; exact w64_get wo k hkn
      have b_y : y < 18446744073709551616 := by rw [← hy]; exact w64_get wq k hkq
      rw [hx] at cg
      rw [hy] at cb
      obtain ⟨h, hh⟩ : ∃ h, y * f / 18446744073709551616 = h := ⟨_, rfl⟩
      obtain ⟨l, hl⟩ : ∃ l, y * f % 18446744073709551616 = l := ⟨_, rfl⟩
      obtain ⟨l1, h1⟩ : ∃ l1, (l + c) % 18446744073709551616 = l1 := ⟨_, rfl⟩
      obtain ⟨c1, h2⟩ : ∃ c1, (l + c) / 18446744073709551616 = c1 := ⟨_, rfl⟩
      obtain ⟨s, h3⟩ : ∃ s, (x + l1) % 18446744073709551616 = s := ⟨_, rfl⟩
      obtain ⟨c2, h4⟩ : ∃ c2, (x + l1) / 18446744073709551616 = c2 := ⟨_, rfl⟩
      obtain ⟨hS, z1, z2, z3, z4, z5, z6, z7⟩ := HR.out.step hkp hkq hx2 hy bx b_y hf hh hl h1 h2 h3 h4
      have hadd := add64_eq0 l c l1 c1 h1 h2
      have hadd2 := add64_eq0 x l1 s c2 h3 h4
      have HHH := hide hh
      have HLL := hide hl
      have HS := hide hS
      have HW := hide (HO.out.segset HP.out k s hkn)
      have HU := hide (hU.set (o + k) (.int .u64 (s : Int)))
      have HQ := hide (hQ.far (b := g) (by omega) (o + k) (.int .u64 (s : Int)))
      have q1 : (h : Int) + c1 ≤ 18446744073709551615 := by omega
      have q2 : (h : Int) + c1 + c2 ≤ 18446744073709551615 := by omega
      clear hx hy hx2 hh hl h1 h2 h3 h4 hS
      go_wp2_with (go_at_call 86; refine (b_mul64 y f h l _ b_y hf HHH HLL).mono ?_; rintro e' w' ⟨rfl, rfl⟩)
      exact ⟨⟨k + 1, _, _, by go_num, by go_num, by omega, z1, HS, w64_set wo _ _ z2, HW, HQ.out, HU.out⟩, by simp [intOf]; omega⟩
    · obtain rfl : k = 4 := by omega
      have H1 : Hid (val os + 18446744073709551616 ^ 4 * c = val p + val q * f) := by
        obtain ⟨r1, _, _, r4⟩ := HR.out
        rw [List.take_of_length_le (by rw [HL.out]; omega), List.take_of_length_le (by rw [Hp.out]; omega), List.take_of_length_le (by rw [Hq.out]; omega)] at r4
        exact r4
      go_wp2
      go_ret
      exact ⟨c, os, rfl, hc, HL.out, wo, H1.out, HO.out, hU⟩
end Go.Proofs.YtkhlhlldlikleaaDoor
