/- shiftDown, guessDigit and subProduct of the program. Conditions: the words are of 64 bits; the shift is less than 64; the slices lie in different blocks. -/
import Derived.Test.YtkhlhlldlikleaaDoorDivE
namespace Go.Proofs.YtkhlhlldlikleaaDoor
set_option linter.unusedVariables false
set_option linter.unusedSimpArgs false
open Go Go.RowKit
/-- A word shifted down: what stays with what comes from above, and what goes over. -/
theorem shr_parts (x s m : Nat) (hs : s < 64) (hx : x < 18446744073709551616) (hm : m < 2 ^ s) :
    ∃ l t z o : Nat, (x : Int) / 2 ^ s = (l : Int) ∧ IntKind.u64.wrap ((x : Int) * 2 ^ (64 - s)) = (t : Int) ∧ bits .or .u64 (l : Int) ((m * 2 ^ (64 - s) : Nat) : Int) = (z : Int) ∧ Hid (t = o * 2 ^ (64 - s) ∧ o < 2 ^ s ∧ z * 2 ^ s + o = x + 18446744073709551616 * m ∧ z < 18446744073709551616) := by
  have c2 : ((2 : Int) ^ s) = ((2 ^ s : Nat) : Int) := by rw [Int.natCast_pow]; rfl
  have c3 : ((2 : Int) ^ (64 - s)) = ((2 ^ (64 - s) : Nat) : Int) := by rw [Int.natCast_pow]; rfl
  have hp := two64 s (by omega)
  have ps := Nat.two_pow_pos s
  have pt := Nat.two_pow_pos (64 - s)
  have hl : x / 2 ^ s < 2 ^ (64 - s) := by rw [Nat.div_lt_iff_lt_mul ps, Nat.mul_comm, ← hp]; exact hx
  have hmt : m * 2 ^ (64 - s) < 18446744073709551616 := by rw [hp]; exact Nat.mul_lt_mul_of_pos_right hm pt
  have ho := or_sum' m (x / 2 ^ s) (64 - s) (by omega) hl hmt
  have e1 := Nat.div_add_mod x (2 ^ s)
  have h2 := Nat.mod_lt x ps
  have hz : m * 2 ^ (64 - s) + x / 2 ^ s < 18446744073709551616 := by
    have h3 : (m + 1) * 2 ^ (64 - s) ≤ 2 ^ s * 2 ^ (64 - s) := Nat.mul_le_mul_right _ hm
    rw [Nat.add_mul, Nat.one_mul, ← hp] at h3
    omega
  have ht : x * 2 ^ (64 - s) % 18446744073709551616 = x % 2 ^ s * 2 ^ (64 - s) := by rw [hp, Nat.mul_mod_mul_right]
  refine ⟨x / 2 ^ s, x * 2 ^ (64 - s) % 18446744073709551616, m * 2 ^ (64 - s) + x / 2 ^ s, x % 2 ^ s, ?_, ?_, ho, ht, h2, ?_, hz⟩
  · rw [c2, Int.natCast_ediv]
  · rw [c3, ← Int.natCast_mul, wrap_u64', Int.natCast_emod]; rfl
  · rw [Nat.add_mul, Nat.mul_assoc, Nat.mul_comm (2 ^ (64 - s)) (2 ^ s), ← hp, Nat.mul_comm (x / 2 ^ s) (2 ^ s)]
    omega
def DownRel (L os : List Nat) (s k m : Nat) : Prop := os.length = L.length ∧ os.take k = L.take k ∧ m < 2 ^ s ∧ val (os.drop k) * 2 ^ s + m = val (L.drop k)
theorem take_at {L os : List Nat} {j x : Nat} (h : os.take (j + 1) = L.take (j + 1)) (hj : j < L.length) (hx : L[j] = x) (h0 : j < os.length) : os[j] = x := by
  have := congrArg (fun l => l[j]?) h
  simp only [List.getElem?_take, Nat.lt_succ_self, if_true] at this
  rw [List.getElem?_eq_getElem h0, List.getElem?_eq_getElem hj, hx] at this
  exact Option.some.inj this
theorem DownRel.step {L os : List Nat} {s j m x z o : Nat} (h : DownRel L os s (j + 1) m) (hj : j < L.length) (hx : L[j] = x) (ho : o < 2 ^ s) (hz : z * 2 ^ s + o = x + 18446744073709551616 * m) : DownRel L (os.set j z) s j o := by
  obtain ⟨h1, h2, h3, h4⟩ := h
  have hjo : j < os.length := by omega
  refine ⟨by simpa using h1, ?_, ho, ?_⟩
  · rw [List.take_set_of_le (Nat.le_refl _)]
    have := congrArg (List.take j) h2
    rw [List.take_take, List.take_take, Nat.min_eq_left (by omega)] at this
    exact this
  · rw [val_drop _ j (by simpa using hjo), val_drop L j hj, List.getElem_set_self, List.drop_set_of_lt (by omega), hx, ← h4, Nat.add_mul, Nat.mul_assoc]
    generalize val (os.drop (j + 1)) * 2 ^ s = y at *
    generalize z * 2 ^ s = t at *
    omega
set_option maxHeartbeats 1000000 in
theorem p_shiftDown (a b c d n s : Nat) (hn : mag4 a b c d = n) (w : World) (hw : W64 [a, b, c, d]) (hs : s < 64) :
    Calls Tryd.prog 71 #[.agg #[.int .u64 (a : Int), .int .u64 (b : Int), .int .u64 (c : Int), .int .u64 (d : Int)], .int .u64 (s : Int)] w (WordsOnly (n / 2 ^ s) w) := by
  have H1 := two_blocks w (.cells #[.int .u64 (a : Int), .int .u64 (b : Int), .int .u64 (c : Int), .int .u64 (d : Int)] 59) (.cells #[.int .u64 0, .int .u64 0, .int .u64 0, .int .u64 0] 59)
  obtain ⟨W, hW⟩ : ∃ W, W = (w.alloc (.cells #[.int .u64 (a : Int), .int .u64 (b : Int), .int .u64 (c : Int), .int .u64 (d : Int)] 59)).alloc (.cells #[.int .u64 0, .int .u64 0, .int .u64 0, .int .u64 0] 59) := ⟨_, rfl⟩
  have E0 : Ext w W := by rw [hW]; exact (ext_alloc _ _).trans (ext_alloc _ _)
  rw [← hW] at H1
  obtain ⟨L, hL⟩ : ∃ L, L = [a, b, c, d] := ⟨_, rfl⟩
  have A0 : Arr W w.heap.size 59 L := by rw [hL]; exact H1.1
  have A1 : Arr W (w.heap.size + 1) 59 [0, 0, 0, 0] := H1.2
  have HL : Hid (L.length = 4) := by rw [hL]; exact rfl
  have VL : Hid (val L = n) := by rw [hL]; exact hn
  rw [← hL] at hw
  have HW := hide hW
  clear hW H1 hL hn
  go_enter Tryd.func71, Tryd.ntmps71
  go_wp2_with fail
  rw [← HW.out]
  clear HW
  go_loopw [6, 5] (fun i t wr => ∃ (k c m : Nat) (os : List Nat), i = .int .i64 ((k : Int) - 1) ∧ t = .int .u64 c ∧ k ≤ 4 ∧ Hid (c = m * 2 ^ (64 - s)) ∧ Hid (DownRel L os s k m) ∧ W64 os ∧ Arr wr w.heap.size 59 os ∧ Upd w.heap.size W wr) (fun i _ _ => (intOf i + 1).toNat)
  case atStart => exact ⟨4, 0, 0, L, rfl, rfl, by omega, by simp [Hid], ⟨rfl, rfl, Nat.two_pow_pos _, by rw [List.drop_of_length_le (by rw [HL.out]; omega)]; simp [val]⟩, hw, A0, Upd.refl _ _⟩
  case round =>
    obtain ⟨k, c', m, os, rfl, rfl, hk, HC, HR, wo, hA, hU⟩ := hrel
    have HO : Hid (os.length = 4) := HR.out.1.trans HL.out
    by_cases hk0 : k = 0
    · subst hk0
      have B1 := A1.upd hU (by omega)
      have E1 := hU.ext E0 (Nat.le_refl _)
      have H1 : Hid (val os = n / 2 ^ s) := by
        obtain ⟨_, _, h3, h4⟩ := HR.out
        rw [List.drop_zero, List.drop_zero, VL.out] at h4
        unfold Hid
        rw [← h4, Nat.mul_comm, Nat.mul_add_div (Nat.two_pow_pos _), Nat.div_eq_of_lt h3, Nat.add_zero]
      obtain ⟨a1, b1, c1, d1, rfl⟩ := four_list HO.out
      obtain ⟨c0, c1', c2, c3, f0, f1, f2, f3⟩ := hA.four
      obtain ⟨d0, d1', d2, d3, g0, g1, g2, g3⟩ := B1.four
      clear hU hA B1
      go_wp2_with fail
      exact bodyPost_ret (v := .agg #[.int .u64 (a1 : Int), .int .u64 (b1 : Int), .int .u64 (c1 : Int), .int .u64 (d1 : Int)]) (by simp [results, Tryd.results71, go_sem, d0, d1', d2, d3]) rfl ⟨a1, b1, c1, d1, rfl, wo, H1.out, ext_four E1 (by omega) _ _ _ _⟩
    · obtain ⟨j, rfl⟩ : ∃ j, k = j + 1 := ⟨k - 1, by omega⟩
      have hj : j < L.length := by rw [HL.out]; omega
      have hjo : j < os.length := by rw [HO.out]; omega
      obtain ⟨x, hx⟩ : ∃ x, L[j] = x := ⟨_, rfl⟩
      have bx : x < 18446744073709551616 := by rw [← hx]; exact w64_get hw j hj
      obtain ⟨l, t, z, o, z1, z2, z3, HZ⟩ := shr_parts x s m hs bx HR.out.2.2.1
      rw [← HC.out] at z3
      have HS := hide (HR.out.step hj hx HZ.out.2.1 HZ.out.2.2.1)
      have cg := hA.at j hjo
      rw [take_at HR.out.2.1 hj hx hjo] at cg
      have fg := hA.free j
      have HA := hide (hA.set j z)
      have HU := hide (hU.set j (.int .u64 (z : Int)))
      have w2 := w64_set wo j z HZ.out.2.2.2
      have HC2 : Hid (t = o * 2 ^ (64 - s)) := HZ.out.1
      clear hx hA hU
      go_wp2_with fail
      exact ⟨⟨j, _, o, _, by go_num, rfl, by omega, HC2, HS, w2, HA.out, HU.out⟩, by first | (simp [intOf]; done) | (simp [intOf]; omega)⟩
def OneRet (q : Nat) (w : World) (e : Ending) (w' : World) : Prop := e = .returned (.int .u64 (q : Int)) ∧ Ext w w'
def guessV (h l t : Nat) : Nat := if t ≤ h then 18446744073709551615 else (h * 18446744073709551616 + l) / t
theorem p_guess (h l t g : Nat) (w : World) (h1 : h < 18446744073709551616) (h2 : l < 18446744073709551616) (h3 : t < 18446744073709551616) (hg : Hid (guessV h l t = g)) :
    Calls Tryd.prog 89 #[.int .u64 (h : Int), .int .u64 (l : Int), .int .u64 (t : Int)] w (OneRet g w) := by
  by_cases ht : t ≤ h
  · have hI : (t : Int) ≤ (h : Int) := by omega
    have HG : Hid (18446744073709551615 = g) := by rw [← hg.out]; exact (if_pos ht).symm
    go_enter Tryd.func89, Tryd.ntmps89
    go_wp2_with fail
    go_ret
    exact ⟨by rw [← HG.out]; rfl, Ext.refl _⟩
  · have hI : ¬ ((t : Int) ≤ (h : Int)) := by omega
    have hlt : h < t := by omega
    obtain ⟨r, hr⟩ : ∃ r, (h * 18446744073709551616 + l) % t = r := ⟨_, rfl⟩
    have HR := hide hr
    have HG : Hid ((h * 18446744073709551616 + l) / t = g) := by rw [← hg.out]; exact (if_neg ht).symm
    clear hr
    go_enter Tryd.func89, Tryd.ntmps89
    go_wp2_with (go_at_call 73; refine (b_div64 h l t g r _ hlt h3 h2 HG HR).mono ?_; rintro e' w' ⟨rfl, hE⟩; have hE := hide hE)
    go_ret
    exact ⟨rfl, hE.out⟩
end Go.Proofs.YtkhlhlldlikleaaDoor
