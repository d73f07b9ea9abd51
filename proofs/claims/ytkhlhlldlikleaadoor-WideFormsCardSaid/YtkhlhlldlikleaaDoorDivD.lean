/- Div64 of the library and divWord of the program. Conditions: the words are of 64 bits; the divisor is greater than the upper word; it is not 0. -/
import Derived.Test.YtkhlhlldlikleaaDoorDivC
import Derived.Test.YtkhlhlldlikleaaDoorWrdK
namespace Go.Proofs.YtkhlhlldlikleaaDoor
set_option linter.unusedVariables false
set_option linter.unusedSimpArgs false
open Go Go.RowKit
theorem b_div64_small (lo y : Nat) (w : World) (h2 : y < 18446744073709551616) (h3 : lo < 18446744073709551616) (h0 : 0 < y) :
    Calls Tryd.prog 73 #[.int .u64 0, .int .u64 (lo : Int), .int .u64 (y : Int)] w fun e w' => ∃ n, e = .returned (.tuple #[.int .u64 ((lo / y : Nat) : Int), .int .u64 ((lo % y : Nat) : Int)]) ∧ w' = w.drewN n := by
  have e1 : ((y : Int) == 0) = false := by simp; omega
  have e3 : ¬ ((y : Int) ≤ 0) := by omega
  have e4 : ¬ (y ≤ 0) := by omega
  have e5 : ¬ ((y : Int) = 0) := by omega
  have e6 : ¬ (y = 0) := by omega
  obtain ⟨q, t1, t2, Q⟩ := wD lo y
  obtain ⟨r, hr⟩ : ∃ r, lo % y = r := ⟨_, rfl⟩
  have t4 : (lo : Int).tmod (y : Int) = (r : Int) := by rw [← hr]; exact (Int.ofNat_tmod lo y).symm
  have t5 : (lo : Int) % (y : Int) = (r : Int) := by rw [← hr]; exact (Int.natCast_emod lo y).symm
  have hq : q < 18446744073709551616 := by have := Q.out; have : lo / y ≤ lo := Nat.div_le_self _ _; omega
  have hr2 : r < 18446744073709551616 := by rw [← hr]; have := Nat.mod_lt lo h0; omega
  have t3 := wI q hq
  have t6 := wI r hr2
  have HR := hide hr
  rw [← Q.out, hr]
  clear hr
  go_enter Tryd.func73, Tryd.ntmps73
  go_wp2_with fail
  go_quiet (fail)
  go_wp2_with fail
  go_ret2
  exact ⟨_, rfl, rfl⟩
def TwoRet (q r : Nat) (w : World) (e : Ending) (w' : World) : Prop := e = .returned (.tuple #[.int .u64 (q : Int), .int .u64 (r : Int)]) ∧ Ext w w'
theorem b_div64 (hi lo y q r : Nat) (w : World) (h1 : hi < y) (h2 : y < 18446744073709551616) (h3 : lo < 18446744073709551616) (hq : Hid ((hi * 18446744073709551616 + lo) / y = q)) (hr : Hid ((hi * 18446744073709551616 + lo) % y = r)) :
    Calls Tryd.prog 73 #[.int .u64 (hi : Int), .int .u64 (lo : Int), .int .u64 (y : Int)] w (TwoRet q r w) := by
  by_cases h0 : 0 < hi
  · refine (b_div64_big hi lo y w h1 h2 h3 h0).mono ?_
    rintro e w' ⟨rfl, rfl⟩
    exact ⟨by rw [hq.out, hr.out], Ext.refl _⟩
  · obtain rfl : hi = 0 := by omega
    refine (b_div64_small lo y w h2 h3 h1).mono ?_
    rintro e w' ⟨n, rfl, rfl⟩
    refine ⟨?_, ext_drewN _ _⟩
    have := hq.out
    have := hr.out
    simp only [Nat.zero_mul, Nat.zero_add] at *
    simp [*]
/-- What has been divided so far. -/
def DivRel (L os : List Nat) (b k c : Nat) : Prop := os.length = L.length ∧ os.take k = L.take k ∧ c < b ∧ val (os.drop k) * b + c = val (L.drop k)
theorem DivRel.step {L os : List Nat} {b j c x q r : Nat} (h : DivRel L os b (j + 1) c) (hj : j < L.length) (hx : L[j] = x) (bx : x < 18446744073709551616) (hb : 0 < b) (hq : (c * 18446744073709551616 + x) / b = q) (hr : (c * 18446744073709551616 + x) % b = r) :
    DivRel L (os.set j q) b j r ∧ q < 18446744073709551616 ∧ r < b ∧ ∀ h : j < os.length, os[j] = x := by
  obtain ⟨h1, h2, h3, h4⟩ := h
  have hjo : j < os.length := by omega
  have e := Nat.div_add_mod (c * 18446744073709551616 + x) b
  rw [hq, hr] at e
  have hr2 : r < b := by rw [← hr]; exact Nat.mod_lt _ hb
  have hq2 : q < 18446744073709551616 := by
    rw [← hq, Nat.div_lt_iff_lt_mul hb]
    have : c * 18446744073709551616 + 18446744073709551616 ≤ b * 18446744073709551616 := by
      have h5 : (c + 1) * 18446744073709551616 ≤ b * 18446744073709551616 := Nat.mul_le_mul_right _ h3
      omega
    have h6 : 18446744073709551616 * b = b * 18446744073709551616 := Nat.mul_comm _ _
    omega
  refine ⟨⟨by simpa using h1, ?_, hr2, ?_⟩, hq2, hr2, ?_⟩
  · rw [List.take_set_of_le (Nat.le_refl _)]
    have := congrArg (List.take j) h2
    rw [List.take_take, List.take_take, Nat.min_eq_left (by omega)] at this
    exact this
  · rw [val_drop _ j (by simpa using hjo), val_drop L j hj, List.getElem_set_self, List.drop_set_of_lt (by omega), hx, ← h4, Nat.add_mul, Nat.mul_assoc]
    generalize val (os.drop (j + 1)) * b = z at *
    rw [Nat.mul_comm b q] at e
    omega
  · intro h0
    have := congrArg (fun l => l[j]?) h2
    simp only [List.getElem?_take, Nat.lt_succ_self, if_true] at this
    rw [List.getElem?_eq_getElem h0, List.getElem?_eq_getElem hj, hx] at this
    exact Option.some.inj this
def DivWordRet (n b : Nat) (w : World) (e : Ending) (w' : World) : Prop := ∃ a1 b1 c1 d1 r : Nat, e = .returned (.tuple #[.agg #[.int .u64 (a1 : Int), .int .u64 (b1 : Int), .int .u64 (c1 : Int), .int .u64 (d1 : Int)], .int .u64 (r : Int)]) ∧ W64 [a1, b1, c1, d1] ∧ mag4 a1 b1 c1 d1 = n / b ∧ r = n % b ∧ Ext w w'
set_option maxHeartbeats 1000000 in
theorem p_divWord (a b c d n y : Nat) (hn : mag4 a b c d = n) (w : World) (hw : W64 [a, b, c, d]) (hy : 0 < y) (hy2 : y < 18446744073709551616) :
    Calls Tryd.prog 51 #[.agg #[.int .u64 (a : Int), .int .u64 (b : Int), .int .u64 (c : Int), .int .u64 (d : Int)], .int .u64 (y : Int)] w (DivWordRet n y w) := by
  have H1 := two_blocks w (.cells #[.int .u64 (a : Int), .int .u64 (b : Int), .int .u64 (c : Int), .int .u64 (d : Int)] 59) (.cells #[.int .u64 0, .int .u64 0, .int .u64 0, .int .u64 0] 59)
  obtain ⟨W, hW⟩ : ∃ W, W = (w.alloc (.cells #[.int .u64 (a : Int), .int .u64 (b : Int), .int .u64 (c : Int), .int .u64 (d : Int)] 59)).alloc (.cells #[.int .u64 0, .int .u64 0, .int .u64 0, .int .u64 0] 59) := ⟨_, rfl⟩
  have E0 : Ext w W := by rw [hW]; exact (ext_alloc _ _).trans (ext_alloc _ _)
  rw [← hW] at H1
  obtain ⟨L, hL⟩ : ∃ L, L = [a, b, c, d] := ⟨_, rfl⟩
  have A0 : Arr W w.heap.size 59 L := by rw [hL]; exact H1.1
  have A1 : Arr W (w.heap.size + 1) 59 [0, 0, 0, 0] := H1.2
  have HL : Hid (L.length = 4) := by rw [hL]; exact rfl
  have VL : Hid (val L = n) := by rw [hL]; exact hn
  rw [← hL] at hw
  have HW := hide hW
  clear hW H1 hL hn
  go_enter Tryd.func51, Tryd.ntmps51
  go_wp2_with fail
  rw [← HW.out]
  clear HW
  go_loopw [7, 6] (fun i t wr => ∃ (k c : Nat) (os : List Nat), i = .int .i64 ((k : Int) - 1) ∧ t = .int .u64 c ∧ k ≤ 4 ∧ Hid (DivRel L os y k c) ∧ W64 os ∧ Arr wr w.heap.size 59 os ∧ Upd w.heap.size W wr) (fun i _ _ => (intOf i + 1).toNat)
  case atStart => exact ⟨4, 0, L, rfl, rfl, by omega, ⟨rfl, rfl, hy, by rw [List.drop_of_length_le (by rw [HL.out]; omega)]; simp [val]⟩, hw, A0, Upd.refl _ _⟩
  case round =>
    obtain ⟨k, c, os, rfl, rfl, hk, HR, wo, hA, hU⟩ := hrel
    have HO : Hid (os.length = 4) := HR.out.1.trans HL.out
    by_cases hk0 : k = 0
    · subst hk0
      have B1 := A1.upd hU (by omega)
      have E1 := hU.ext E0 (Nat.le_refl _)
      have H1 : Hid (val os = n / y ∧ c = n % y) := by
        obtain ⟨_, _, h3, h4⟩ := HR.out
        rw [List.drop_zero, List.drop_zero, VL.out] at h4
        rw [← h4]
        constructor
        · rw [Nat.mul_comm, Nat.mul_add_div hy, Nat.div_eq_of_lt h3, Nat.add_zero]
        · rw [Nat.mul_comm, Nat.mul_add_mod, Nat.mod_eq_of_lt h3]
      obtain ⟨a1, b1, c1, d1, rfl⟩ := four_list HO.out
      obtain ⟨c0, c1', c2, c3, f0, f1, f2, f3⟩ := hA.four
      obtain ⟨d0, d1', d2, d3, g0, g1, g2, g3⟩ := B1.four
      clear hU hA B1
      go_wp2_with fail
      exact bodyPost_ret (v := .tuple #[.agg #[.int .u64 (a1 : Int), .int .u64 (b1 : Int), .int .u64 (c1 : Int), .int .u64 (d1 : Int)], .int .u64 (c : Int)]) (by simp [results, Tryd.results51, go_sem, d0, d1', d2, d3]) rfl ⟨a1, b1, c1, d1, c, rfl, wo, H1.out.1, H1.out.2, ext_four E1 (by omega) _ _ _ _⟩
    · obtain ⟨j, rfl⟩ : ∃ j, k = j + 1 := ⟨k - 1, by omega⟩
      have hj : j < L.length := by rw [HL.out]; omega
      have hjo : j < os.length := by rw [HO.out]; omega
      obtain ⟨x, hx⟩ : ∃ x, L[j] = x := ⟨_, rfl⟩
      have bx : x < 18446744073709551616 := by rw [← hx]; exact w64_get hw j hj
      obtain ⟨q, hq⟩ : ∃ q, (c * 18446744073709551616 + x) / y = q := ⟨_, rfl⟩
      obtain ⟨r, hr⟩ : ∃ r, (c * 18446744073709551616 + x) % y = r := ⟨_, rfl⟩
      obtain ⟨hS, z1, z2, z3⟩ := HR.out.step hj hx bx hy hq hr
      have cg := hA.at j hjo
      have fg := hA.free j
      rw [z3 hjo] at cg
      have hcy : c < y := HR.out.2.2.1
      have HQ := hide hq
      have HRR := hide hr
      have HS := hide hS
      have HA := hide hA
      have HU := hide hU
      have lg := hA.lt
      clear hq hr hx hS z3 hA hU
      go_wp2_with (go_at_call 73; refine (b_div64 c x y q r _ hcy hy2 bx HQ HRR).mono ?_; rintro e' w' ⟨rfl, hE⟩; have hA2 := HA.out.ext hE; have cg2 := hA2.at j hjo; have fg2 := hA2.free j; have HA3 := hide (hA2.set j q); have HU3 := hide ((HU.out.trans (hE.upd _)).set j (.int .u64 (q : Int))); clear hA2 hE)
      exact ⟨⟨j, _, _, by go_num, rfl, by omega, HS, w64_set wo _ _ z1, HA3.out, HU3.out⟩, by simp [intOf]⟩
end Go.Proofs.YtkhlhlldlikleaaDoor
