/- takeDigit of the program: a digit of a quotient. Conditions: the words lie in memory, in different blocks; the number is less than the divisor times 2^64. -/
import Derived.Test.YtkhlhlldlikleaaDoorDivG
namespace Go.Proofs.YtkhlhlldlikleaaDoor
set_option linter.unusedVariables false
set_option linter.unusedSimpArgs false
open Go Go.RowKit
theorem guess_ge (p q : List Nat) (n g : Nat) (hp : p.length = n + 1 + 1) (hq : q.length = n + 1) (wp : W64 p) (h1 : n + 1 < p.length) (h2 : n < p.length) (h3 : n < q.length) (hg : guessV p[n + 1] p[n] q[n] = g) (hlt : val p < val q * 18446744073709551616) :
    val p < (g + 1) * val q ∧ g < 18446744073709551616 := by
  have e1 := val_take_succ p (n + 1) h1
  have e2 := val_take_succ p n h2
  have e3 := val_take_succ q n h3
  rw [List.take_of_length_le (by omega)] at e1
  rw [List.take_of_length_le (by omega)] at e3
  rw [e2] at e1
  have hr := val_lt (p.take n) (w64_take wp n)
  rw [List.length_take, Nat.min_eq_left (by omega)] at hr
  have bl := w64_get wp n h2
  have bh := w64_get wp (n + 1) h1
  generalize p[n + 1] = h at *
  generalize p[n] = l at *
  generalize q[n] = t at *
  unfold guessV at hg
  by_cases ht : t ≤ h
  · rw [if_pos ht] at hg
    subst hg
    rw [Nat.mul_comm]
    exact ⟨hlt, by omega⟩
  · rw [if_neg ht] at hg
    have ht0 : 0 < t := by omega
    have hm := Nat.div_add_mod (h * 18446744073709551616 + l) t
    have hm2 := Nat.mod_lt (h * 18446744073709551616 + l) ht0
    rw [hg] at hm
    have hgb : g < 18446744073709551616 := by
      rw [← hg, Nat.div_lt_iff_lt_mul ht0]
      have h5 : (h + 1) * 18446744073709551616 ≤ t * 18446744073709551616 := Nat.mul_le_mul_right _ (by omega)
      rw [Nat.add_mul] at h5
      rw [Nat.mul_comm 18446744073709551616 t]
      omega
    refine ⟨?_, hgb⟩
    rw [Nat.pow_succ] at e1
    generalize 18446744073709551616 ^ n = K at *
    have h6 : h * 18446744073709551616 + l + 1 ≤ (g + 1) * t := by
      rw [Nat.add_mul, Nat.one_mul, Nat.mul_comm g t]
      omega
    have h7 : K * (h * 18446744073709551616 + l + 1) ≤ K * ((g + 1) * t) := Nat.mul_le_mul_left _ h6
    rw [Nat.mul_add, Nat.mul_add, Nat.mul_one] at h7
    have h8 : K * 18446744073709551616 * h = K * (h * 18446744073709551616) := by rw [Nat.mul_assoc, Nat.mul_comm 18446744073709551616 h]
    have h9 : (g + 1) * val q = (g + 1) * val (q.take n) + K * ((g + 1) * t) := by rw [e3, Nat.mul_add, Nat.mul_left_comm]
    rw [h9, e1, h8]
    omega
/-- .. that reads only, said so. -/
def OneQ (q : Nat) (w : World) (e : Ending) (w' : World) : Prop := e = .returned (.int .u64 (q : Int)) ∧ ∃ n, w' = w.drewN n
theorem b_div64q (hi lo y q r : Nat) (w : World) (h1 : hi < y) (h2 : y < 18446744073709551616) (h3 : lo < 18446744073709551616) (hq : Hid ((hi * 18446744073709551616 + lo) / y = q)) (hr : Hid ((hi * 18446744073709551616 + lo) % y = r)) :
    Calls Tryd.prog 73 #[.int .u64 (hi : Int), .int .u64 (lo : Int), .int .u64 (y : Int)] w fun e w' => e = .returned (.tuple #[.int .u64 (q : Int), .int .u64 (r : Int)]) ∧ ∃ n, w' = w.drewN n := by
  by_cases h0 : 0 < hi
  · refine (b_div64_big hi lo y w h1 h2 h3 h0).mono ?_
    rintro e w' ⟨rfl, rfl⟩
    exact ⟨by rw [hq.out, hr.out], 0, rfl⟩
  · obtain rfl : hi = 0 := by omega
    refine (b_div64_small lo y w h2 h3 h1).mono ?_
    rintro e w' ⟨n, rfl, rfl⟩
    refine ⟨?_, n, rfl⟩
    have := hq.out
    have := hr.out
    simp only [Nat.zero_mul, Nat.zero_add] at *
    simp [*]
theorem p_guessq (h l t g : Nat) (w : World) (h2 : l < 18446744073709551616) (h3 : t < 18446744073709551616) (hg : Hid (guessV h l t = g)) :
    Calls Tryd.prog 89 #[.int .u64 (h : Int), .int .u64 (l : Int), .int .u64 (t : Int)] w (OneQ g w) := by
  by_cases ht : t ≤ h
  · have hI : (t : Int) ≤ (h : Int) := by omega
    have HG : Hid (18446744073709551615 = g) := by rw [← hg.out]; exact (if_pos ht).symm
    go_enter Tryd.func89, Tryd.ntmps89
    go_wp2_with fail
    go_ret
    exact ⟨by rw [← HG.out]; rfl, 0, rfl⟩
  · have hI : ¬ ((t : Int) ≤ (h : Int)) := by omega
    have hlt : h < t := by omega
    obtain ⟨r, hr⟩ : ∃ r, (h * 18446744073709551616 + l) % t = r := ⟨_, rfl⟩
    have HR := hide hr
    have HG : Hid ((h * 18446744073709551616 + l) / t = g) := by rw [← hg.out]; exact (if_neg ht).symm
    clear hr
    go_enter Tryd.func89, Tryd.ntmps89
    go_wp2_with (go_at_call 73; refine (b_div64q h l t g r _ hlt h3 h2 HG HR).mono ?_; rintro e' w' ⟨rfl, n, rfl⟩)
    go_ret
    exact ⟨rfl, n, rfl⟩
/-- What a guess leaves: too much may have been taken. -/
def TakeRel (R D M : Nat) (os : List Nat) (g b : Nat) : Prop := b ≤ 1 ∧ R + M * b = val os + D * g ∧ R < (g + 1) * D
theorem TakeRel.step {R D M : Nat} {os os2 : List Nat} {g c : Nat} (h : TakeRel R D M os g 1) (hM : val os < M) (hc : c ≤ 1) (he : val os2 + M * c = val os + D) : 0 < g ∧ TakeRel R D M os2 (g - 1) (1 - c) := by
  obtain ⟨_, h2, h3⟩ := h
  rw [Nat.mul_one] at h2
  have hg : 0 < g := by
    rcases Nat.eq_zero_or_pos g with h0 | h0
    · subst h0; simp at h2; omega
    · exact h0
  obtain ⟨k, rfl⟩ : ∃ k, g = k + 1 := ⟨g - 1, by omega⟩
  rw [Nat.mul_add, Nat.mul_one] at h2
  refine ⟨hg, by omega, ?_, ?_⟩
  · rw [Nat.add_sub_cancel]
    rcases (by omega : c = 0 ∨ c = 1) with rfl | rfl
    · simp at he ⊢; omega
    · simp at he ⊢; omega
  · rw [Nat.add_sub_cancel, Nat.mul_comm, Nat.mul_add, Nat.mul_one]; omega
theorem TakeRel.done {R D M : Nat} {os : List Nat} {g : Nat} (h : TakeRel R D M os g 0) : val os = R % D ∧ g = R / D := by
  obtain ⟨_, h2, h3⟩ := h
  rw [Nat.mul_zero, Nat.add_zero] at h2
  have hlt : val os < D := by
    rw [h2, Nat.add_mul, Nat.one_mul, Nat.mul_comm] at h3; omega
  have hD : 0 < D := by omega
  rw [h2, Nat.add_comm]
  constructor
  · rw [Nat.mul_add_mod, Nat.mod_eq_of_lt hlt]
  · rw [Nat.mul_add_div hD, Nat.div_eq_of_lt hlt, Nat.add_zero]
def TakePost (g n : Nat) (T : TypeId) (P p Q q : List Nat) (w : World) (e : Ending) (w' : World) : Prop :=
  ∃ (d : Nat) (os : List Nat), e = .returned (.int .u64 (d : Int)) ∧ d = val p / val q ∧ d < 18446744073709551616 ∧ os.length = n + 1 ∧ W64 os ∧ val os = val p % val q ∧ Arr w' g T (P ++ os ++ Q) ∧ Upd g w w'
set_option maxHeartbeats 2000000 in
theorem p_takeDigit (g o n ca gb ob cb : Nat) (T : TypeId) (P p Q q : List Nat) (w : World) (hA : Arr w g T (P ++ p ++ Q)) (hP : P.length = o) (hp : p.length = n + 1 + 1) (hq : q.length = n + 1) (hB : Reads w gb ob q) (hne : gb ≠ g) (hn : n ≤ 900) (wp : W64 p) (wq : W64 q) (hlt : val p < val q * 18446744073709551616) :
    Calls Tryd.prog 70 #[.slice (some ⟨g, o, none⟩) (n + 1 + 1) ca, .slice (some ⟨gb, ob, none⟩) (n + 1) cb] w (TakePost g (n + 1) T P p Q q w) := by
  have h1 : n + 1 < p.length := by omega
  have h2 : n < p.length := by omega
  have h3 : n < q.length := by omega
  have c1 := hA.seg hP (n + 1) h1
  have c2 := hA.seg hP n h2
  have c3 := hB.2 n h3
  obtain ⟨x, hx⟩ : ∃ x, p[n + 1] = x := ⟨_, rfl⟩
  obtain ⟨y, hy⟩ : ∃ y, p[n] = y := ⟨_, rfl⟩
  obtain ⟨z, hz⟩ : ∃ z, q[n] = z := ⟨_, rfl⟩
  rw [hx] at c1
  rw [hy] at c2
  rw [hz] at c3
  obtain ⟨g0, hg⟩ : ∃ g0, guessV x y z = g0 := ⟨_, rfl⟩
  have HG := hide hg
  have HGE := hide (guess_ge p q n g0 hp hq wp h1 h2 h3 (by rw [hx, hy, hz]; exact hg) hlt)
  have bx : x < 18446744073709551616 := by rw [← hx]; exact w64_get wp _ h1
  have b_y : y < 18446744073709551616 := by rw [← hy]; exact w64_get wp _ h2
  have bz : z < 18446744073709551616 := by rw [← hz]; exact w64_get wq _ h3
  have bg := HGE.out.2
  have HP := hide hP
  have Hp := hide hp
  have Hq := hide hq
  have HA := hide hA
  have HB := hide hB
  have hw1 : IntKind.i64.wrap ((n : Int) + 1 - 1) = (n : Int) := by rw [IntKind.wrap_i64]; omega
  have hw2 : (n : Int) + 1 - 1 = (n : Int) := by omega
  have hI1 : (n : Int) + 1 < (n : Int) + 1 + 1 := by omega
  have hI2 : (n : Int) < (n : Int) + 1 + 1 := by omega
  have hI3 : (n : Int) < (n : Int) + 1 := by omega
  obtain ⟨M, hM⟩ : ∃ M, 18446744073709551616 ^ (n + 1 + 1) = M := ⟨_, rfl⟩
  have HM := hide hM
  clear hP hp hq hA hB hx hy hz hg h1 h2 h3 hlt hM
  go_enter Tryd.func70, Tryd.ntmps70
  go_wp2_with fail
  go_quiet ((go_at_call 89; exact Calls.quiet_of (p_guessq x y z g0 _ b_y bz HG)))
  have HE := hide (ext_drewN w nq)
  go_wp2_with (go_at_call 90; refine (p_subProduct g o (n + 1) ca gb ob cb g0 T P p Q q _ (HA.out.ext HE.out) HP.out Hp.out Hq.out (HB.out.ext HE.out) hne (by omega) wp wq bg).mono ?_; rintro e' w'' ⟨b, os, rfl, hb, hl, wo, hv, hA2, hU2⟩; rw [HM.out] at hv; have HU := hide ((HE.out.upd g).trans hU2); have HA2 := hide hA2; have HV := hide hv; have HL := hide hl; clear hU2 hA2 hv hl)
  go_loopw [6, 7] (fun s t wr => ∃ (d b : Nat) (os : List Nat), s = .int .u64 d ∧ t = .int .u64 b ∧ b ≤ 1 ∧ d < 18446744073709551616 ∧ Hid (TakeRel (val p) (val q) M os d b) ∧ Hid (os.length = n + 1 + 1) ∧ W64 os ∧ Hid (Arr wr g T (P ++ os ++ Q)) ∧ Upd g w wr) (fun s _ _ => (intOf s).toNat)
  case atStart => exact ⟨g0, b, os, rfl, rfl, hb, bg, ⟨hb, HV.out, HGE.out.1⟩, HL, wo, HA2, HU.out⟩
  case round =>
    clear hb wo HU HA2 HV HL
    obtain ⟨d, b, os, rfl, rfl, hb, hd, HR, HL, wo, HA2, hU⟩ := hrel
    rcases (by omega : b = 0 ∨ b = 1) with rfl | rfl
    · have HD := hide HR.out.done
      go_wp2_with fail
      go_ret
      exact ⟨d, os, rfl, HD.out.2, hd, HL.out, wo, HD.out.1, HA2.out, hU⟩
    · obtain ⟨d', hd'⟩ : ∃ d', d = d' + 1 ∨ d = 0 ∧ d' = 0 := ⟨d - 1, by omega⟩
      have hM : val os < M := by
        have := val_lt os wo; rw [HL.out, HM.out] at this; exact this
      have hstep := fun c os2 h1 h2 => HR.out.step (c := c) (os2 := os2) hM h1 h2
      have HST := hide hstep
      have hpos : 0 < d := (hstep 0 [val os + val q] (by omega) (by simp [val])).1
      have hdd : d = d' + 1 := by omega
      have hw1' : IntKind.u64.wrap ((d : Int) - 1) = (d' : Int) := by rw [wrap_u64']; omega
      have hw2' : (d : Int) - 1 = (d' : Int) := by omega
      have HDD := hide hdd
      have hdlt : d' < d := by omega
      have HU := hide hU
      have HAR := hide ((HB.out.ext HE.out))
      clear hdd hd' hstep hM hU
      go_wp2_with (go_at_call 63; refine (p_addTo g o (n + 1 + 1) ca gb ob (n + 1) cb T P os Q q _ HA2.out HP.out HL.out Hq.out (HB.out.upd HU.out hne) hne (by omega) (by omega) wo wq).mono ?_; rintro e' w3 ⟨c2, os2, rfl, hc2, hl2, wo2, hv2, hA3, hU3⟩; rw [HM.out] at hv2; have HST2 := hide (HST.out c2 os2 hc2 hv2).2; have HA3 := hide hA3; have HU4 := hide (HU.out.trans hU3); have HL2 := hide hl2; have hw3 : IntKind.u64.wrap (1 - (c2 : Int)) = ((1 - c2 : Nat) : Int) := (by rw [wrap_u64']; omega); have hw4 : (1 : Int) - (c2 : Int) = ((1 - c2 : Nat) : Int) := (by omega); clear hA3 hU3 hv2 hl2)
      exact ⟨⟨d', 1 - c2, os2, rfl, rfl, by omega, by omega, by have := HST2.out; rw [show d' = d - 1 from by have := HDD.out; omega]; exact this, HL2.out, wo2, HA3, HU4.out⟩, by simp [intOf]; omega⟩
end Go.Proofs.YtkhlhlldlikleaaDoor
