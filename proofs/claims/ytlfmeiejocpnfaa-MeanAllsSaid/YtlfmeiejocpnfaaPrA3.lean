/- Part 3 of what these claims stand on: contracts of the program's and the reference's functions, and plain facts. Conditions: each states its own. -/
import Derived.Test.YtlfmeiejocpnfaaPrA2
import Derived.Laws.IdiomCopy
import Derived.Deep.RegionWith
import Derived.Deep.RegionHeld3
import Derived.Deep.DeepCutAuto
import Derived.Lib.QuietBelow
import Derived.KernelRfl
import Derived.Laws.Rows
import Derived.Laws.CopyRow
namespace Go.Proofs.Ytlfmeiejocpnfaa
set_option linter.unusedVariables false
set_option linter.unusedSimpArgs false
section
open Go Go.RowKit
def SubMul (p q : List Nat) (f : Nat) (os : List Nat) (k c b : Nat) : Prop := os.length = p.length ∧ os.drop k = p.drop k ∧ c < 18446744073709551616 ∧ b ≤ 1 ∧ val (p.take k) + 18446744073709551616 ^ k * (c + b) = val (os.take k) + val (q.take k) * f
theorem SubMul.step {p q os : List Nat} {f k c b x y h l l1 c1 s b2 : Nat} (hr : SubMul p q f os k c b) (hk : k < p.length) (hq : k < q.length) (hx : p[k] = x) (hy : q[k] = y) (bx : x < 18446744073709551616) (by' : y < 18446744073709551616) (bf : f < 18446744073709551616)
   (hh : y * f / 18446744073709551616 = h) (hl : y * f % 18446744073709551616 = l) (h1 : (l + c) % 18446744073709551616 = l1) (h2 : (l + c) / 18446744073709551616 = c1) (h3 : (x + 18446744073709551616 - l1 - b) % 18446744073709551616 = s) (h4 : (if x < l1 + b then 1 else 0) = b2) :
   SubMul p q f (os.set k s) (k + 1) (h + c1) b2 ∧ h + c1 < 18446744073709551616 ∧ s < 18446744073709551616 := by
 obtain ⟨r1, r2, r3, rb, r4⟩ := hr
 have hp := prod_le by' bf
 have hb2 : b2 ≤ 1 := by rw [← h4]; split <;> omega
 have e1 : y * f + c = l1 + 18446744073709551616 * (h + c1) := by omega
 have e2 : x + 18446744073709551616 * b2 = s + l1 + b := by rw [← h4]; split <;> omega
 have b' : h + c1 < 18446744073709551616 := by omega
 refine ⟨⟨by simpa using r1, by rw [drop_set]; exact (drop_get r2 (by omega) hk).2, b', hb2, ?_⟩, b', by omega⟩
 rw [val_set_take _ _ _ (by omega), val_take_succ p k hk, val_take_succ q k hq, hx, hy, Nat.pow_succ, Nat.add_mul, Nat.mul_assoc (18446744073709551616 ^ k) y f]
 generalize y * f = t at *
 generalize h + c1 = z at *
 generalize 18446744073709551616 ^ k = K at *
 have e3 : K * (t + c) = K * (l1 + 18446744073709551616 * z) := by rw [e1]
 have e4 : K * (x + 18446744073709551616 * b2) = K * (s + l1 + b) := by rw [e2]
 rw [Nat.mul_add, Nat.mul_add, ← Nat.mul_assoc] at e3 e4
 rw [Nat.mul_add K s l1] at e4
 rw [Nat.mul_add] at r4 ⊢
 omega
theorem sub_end (p os q : List Nat) (f n c b x s b2 : Nat) (hr : SubMul p q f os n c b) (hp : p.length = n + 1) (hq : q.length = n) (hx : ∀ h : n < p.length, p[n] = x) (bx : x < 18446744073709551616) (h3 : (x + 18446744073709551616 - c - b) % 18446744073709551616 = s) (h4 : (if x < c + b then 1 else 0) = b2) :
   val p + 18446744073709551616 ^ (n + 1) * b2 = val (os.set n s) + val q * f ∧ (os.set n s).length = n + 1 ∧ s < 18446744073709551616 ∧ b2 ≤ 1 := by
 obtain ⟨r1, r2, r3, rb, r4⟩ := hr
 have hb2 : b2 ≤ 1 := by rw [← h4]; split <;> omega
 have e2 : x + 18446744073709551616 * b2 = s + c + b := by rw [← h4]; split <;> omega
 refine ⟨?_, by simp; omega, by omega, hb2⟩
 have hn : n < p.length := by omega
 have ho : n < os.length := by omega
 have e5 := val_take_succ p n hn
 have e6 := val_set_take os n s ho
 rw [List.take_of_length_le (by omega)] at e5
 rw [List.take_of_length_le (by simp; omega)] at e6
 rw [List.take_of_length_le (l := q) (by omega)] at r4
 rw [e5, e6, hx hn, Nat.pow_succ]
 generalize 18446744073709551616 ^ n = K at *
 have e4 : K * (x + 18446744073709551616 * b2) = K * (s + c + b) := by rw [e2]
 rw [Nat.mul_add, ← Nat.mul_assoc, Nat.add_assoc, Nat.mul_add K s] at e4
 omega
def SubProdPost (g n : Nat) (T : TypeId) (P p Q q : List Nat) (f : Nat) (w : World) (e : Ending) (w' : World) : Prop :=
 ∃ (c : Nat) (os : List Nat), e = .returned (.int .u64 (c : Int)) ∧ c ≤ 1 ∧ os.length = n + 1 ∧ W64 os ∧ val p + 18446744073709551616 ^ (n + 1) * c = val os + val q * f ∧ Arr w' g T (P ++ os ++ Q) ∧ Upd g w w'
set_option maxHeartbeats 1000000 in
theorem p_subProduct (g o n ca gb ob cb f : Nat) (T : TypeId) (P p Q q : List Nat) (w : World) (hA : Arr w g T (P ++ p ++ Q)) (hP : P.length = o) (hp : p.length = n + 1) (hq : q.length = n) (hB : Reads w gb ob q) (hne : gb ≠ g) (hn : n ≤ 1000) (wp : W64 p) (wq : W64 q) (hf : f < 18446744073709551616) :
   Calls Try.prog 104 #[.slice (some ⟨g, o, none⟩) (n + 1) ca, .slice (some ⟨gb, ob, none⟩) n cb, .int .u64 (f : Int)] w (SubProdPost g n T P p Q q f w) := by
 have HP := hide hP
 have Hp := hide hp
 have Hq := hide hq
 have HA := hide hA
 have HB := hide hB
 clear hP hp hq hA hB
 go_enter Try.func104, Try.ntmps104
 go_wp2_with fail
 go_loopw [16, 7, 8] (fun i t u wr => ∃ (k c b : Nat) (os : List Nat), i = .int .i64 k ∧ t = .int .u64 c ∧ u = .int .u64 b ∧ k ≤ n ∧ c < 18446744073709551616 ∧ b ≤ 1 ∧ Hid (SubMul p q f os k c b) ∧ W64 os ∧ Hid (Arr wr g T (P ++ os ++ Q)) ∧ Upd g w wr) (fun i _ _ _ => n - (intOf i).toNat)
 case atStart => exact ⟨0, 0, 0, p, rfl, rfl, rfl, by omega, by omega, by omega, ⟨rfl, rfl, by omega, by omega, by simp [val]⟩, wp, HA, Upd.refl _ _⟩
 case round =>
   obtain ⟨k, c, b, os, rfl, rfl, rfl, hk, hc, hb, HR, wo, HO, hU⟩ := hrel
   have HL : Hid (os.length = n + 1) := HR.out.1.trans Hp.out
   have hkn : k < os.length := by rw [HL.out]; omega
   have hkp : k < p.length := by rw [Hp.out]; omega
   have cg := HO.out.seg HP.out k hkn
   have fg := HO.out.free (o + k)
   obtain ⟨x, hx⟩ : ∃ x, os[k] = x := ⟨_, rfl⟩
   have hx2 : p[k] = x := by rw [← hx]; exact (drop_get HR.out.2.1 hkn hkp).1.symm
   have bx : x < 18446744073709551616 := by rw [← hx]; exact w64_get wo k hkn
   rw [hx] at cg
   by_cases hkl : k < n
   · have hkq : k < q.length := by rw [Hq.out]; omega
     have cb := (HB.out.upd hU hne).2 k hkq
     obtain ⟨y, hy⟩ : ∃ y, q[k] = y := ⟨_, rfl⟩
     have b_y : y < 18446744073709551616 := by rw [← hy]; exact w64_get wq k hkq
     rw [hy] at cb
     obtain ⟨h, hh⟩ : ∃ h, y * f / 18446744073709551616 = h := ⟨_, rfl⟩
     obtain ⟨l, hl⟩ : ∃ l, y * f % 18446744073709551616 = l := ⟨_, rfl⟩
     obtain ⟨l1, h1⟩ : ∃ l1, (l + c) % 18446744073709551616 = l1 := ⟨_, rfl⟩
     obtain ⟨c1, h2⟩ : ∃ c1, (l + c) / 18446744073709551616 = c1 := ⟨_, rfl⟩
     obtain ⟨s, h3⟩ : ∃ s, (x + 18446744073709551616 - l1 - b) % 18446744073709551616 = s := ⟨_, rfl⟩
     obtain ⟨b2, h4⟩ : ∃ b2, (if x < l1 + b then 1 else 0) = b2 := ⟨_, rfl⟩
     obtain ⟨hS, z1, z2⟩ := HR.out.step hkp hkq hx2 hy bx b_y hf hh hl h1 h2 h3 h4
     have hadd := add64_eq0 l c l1 c1 h1 h2
     have hsub := sub64_eq x l1 b s b2 hb h3 h4
     have hb2 : b2 ≤ 1 := hS.2.2.2.1
     have HHH := hide hh
     have HLL := hide hl
     have HS := hide hS
     have HW := hide (HO.out.segset HP.out k s hkn)
     have HU := hide (hU.set (o + k) (.int .u64 (s : Int)))
     have q1 : (h : Int) + c1 ≤ 18446744073709551615 := by omega
     clear hx hy hx2 hh hl h1 h2 h3 h4 hS
     go_wp2_with (go_at_call 94; refine (b_mul64 y f h l _ b_y hf HHH HLL).mono ?_; rintro e' w' ⟨rfl, rfl⟩)
     exact ⟨⟨k + 1, _, _, _, by go_num, by go_num, rfl, by omega, z1, hb2, HS, w64_set wo _ _ z2, HW, HU.out⟩, by simp [intOf]; omega⟩
   · obtain rfl : k = n := by omega
     obtain ⟨s, h3⟩ : ∃ s, (x + 18446744073709551616 - c - b) % 18446744073709551616 = s := ⟨_, rfl⟩
     obtain ⟨b2, h4⟩ : ∃ b2, (if x < c + b then 1 else 0) = b2 := ⟨_, rfl⟩
     have HE := hide (sub_end p os q f k c b x s b2 HR.out Hp.out Hq.out (fun _ => hx2) bx h3 h4)
     have hsub := sub64_eq x c b s b2 hb h3 h4
     have HW := hide (HO.out.segset HP.out k s hkn)
     have HU := hide (hU.set (o + k) (.int .u64 (s : Int)))
     have hkI : (k : Int) < (k : Int) + 1 := by omega
     clear hx hx2 h3 h4
     go_wp2_with fail
     go_ret
     exact ⟨b2, os.set k s, rfl, HE.out.2.2.2, HE.out.2.1, w64_set wo _ _ HE.out.2.2.1, HE.out.1, HW.out, HU.out⟩
open Go Go.RowKit
theorem guess_ge (p q : List Nat) (n g : Nat) (hp : p.length = n + 1 + 1) (hq : q.length = n + 1) (wp : W64 p) (h1 : n + 1 < p.length) (h2 : n < p.length) (h3 : n < q.length) (hg : guessV p[n + 1] p[n] q[n] = g) (hlt : val p < val q * 18446744073709551616) :
   val p < (g + 1) * val q ∧ g < 18446744073709551616 := by
 have e1 := val_take_succ p (n + 1) h1
 have e2 := val_take_succ p n h2
 have e3 := val_take_succ q n h3
 rw [List.take_of_length_le (by omega)] at e1
 rw [List.take_of_length_le (by omega)] at e3
 rw [e2] at e1
 have hr := val_lt (p.take n) (w64_take wp n)
 rw [List.length_take, Nat.min_eq_left (by omega)] at hr
 have bl := w64_get wp n h2
 have bh := w64_get wp (n + 1) h1
 generalize p[n + 1] = h at *
 generalize p[n] = l at *
 generalize q[n] = t at *
 unfold guessV at hg
 by_cases ht : t ≤ h
 · rw [if_pos ht] at hg
   subst hg
   rw [Nat.mul_comm]
   exact ⟨hlt, by omega⟩
 · rw [if_neg ht] at hg
   have ht0 : 0 < t := by omega
   have hm := Nat.div_add_mod (h * 18446744073709551616 + l) t
   have hm2 := Nat.mod_lt (h * 18446744073709551616 + l) ht0
   rw [hg] at hm
   have hgb : g < 18446744073709551616 := by
     rw [← hg, Nat.div_lt_iff_lt_mul ht0]
     have h5 : (h + 1) * 18446744073709551616 ≤ t * 18446744073709551616 := Nat.mul_le_mul_right _ (by omega)
     rw [Nat.add_mul] at h5
     rw [Nat.mul_comm 18446744073709551616 t]
     omega
   refine ⟨?_, hgb⟩
   rw [Nat.pow_succ] at e1
   generalize 18446744073709551616 ^ n = K at *
   have h6 : h * 18446744073709551616 + l + 1 ≤ (g + 1) * t := by
     rw [Nat.add_mul, Nat.one_mul, Nat.mul_comm g t]
     omega
   have h7 : K * (h * 18446744073709551616 + l + 1) ≤ K * ((g + 1) * t) := Nat.mul_le_mul_left _ h6
   rw [Nat.mul_add, Nat.mul_add, Nat.mul_one] at h7
   have h8 : K * 18446744073709551616 * h = K * (h * 18446744073709551616) := by rw [Nat.mul_assoc, Nat.mul_comm 18446744073709551616 h]
   have h9 : (g + 1) * val q = (g + 1) * val (q.take n) + K * ((g + 1) * t) := by rw [e3, Nat.mul_add, Nat.mul_left_comm]
   rw [h9, e1, h8]
   omega
def OneQ (q : Nat) (w : World) (e : Ending) (w' : World) : Prop := e = .returned (.int .u64 (q : Int)) ∧ ∃ n, w' = w.drewN n
theorem b_div64q (hi lo y q r : Nat) (w : World) (h1 : hi < y) (h2 : y < 18446744073709551616) (h3 : lo < 18446744073709551616) (hq : Hid ((hi * 18446744073709551616 + lo) / y = q)) (hr : Hid ((hi * 18446744073709551616 + lo) % y = r)) :
   Calls Try.prog 63 #[.int .u64 (hi : Int), .int .u64 (lo : Int), .int .u64 (y : Int)] w fun e w' => e = .returned (.tuple #[.int .u64 (q : Int), .int .u64 (r : Int)]) ∧ ∃ n, w' = w.drewN n := by
 by_cases h0 : 0 < hi
 · refine (b_div64_big hi lo y w h1 h2 h3 h0).mono ?_
   rintro e w' ⟨rfl, rfl⟩
   exact ⟨by rw [hq.out, hr.out], 0, rfl⟩
 · obtain rfl : hi = 0 := by omega
   refine (b_div64_small lo y w h2 h3 h1).mono ?_
   rintro e w' ⟨n, rfl, rfl⟩
   refine ⟨?_, n, rfl⟩
   have := hq.out
   have := hr.out
   simp only [Nat.zero_mul, Nat.zero_add] at *
   simp [*]
theorem p_guessq (h l t g : Nat) (w : World) (h2 : l < 18446744073709551616) (h3 : t < 18446744073709551616) (hg : Hid (guessV h l t = g)) :
   Calls Try.prog 103 #[.int .u64 (h : Int), .int .u64 (l : Int), .int .u64 (t : Int)] w (OneQ g w) := by
 by_cases ht : t ≤ h
 · have hI : (t : Int) ≤ (h : Int) := by omega
   have HG : Hid (18446744073709551615 = g) := by rw [← hg.out]; exact (if_pos ht).symm
   go_enter Try.func103, Try.ntmps103
   go_wp2_with fail
   go_ret
   exact ⟨by rw [← HG.out]; rfl, 0, rfl⟩
 · have hI : ¬ ((t : Int) ≤ (h : Int)) := by omega
   have hlt : h < t := by omega
   obtain ⟨r, hr⟩ : ∃ r, (h * 18446744073709551616 + l) % t = r := ⟨_, rfl⟩
   have HR := hide hr
   have HG : Hid ((h * 18446744073709551616 + l) / t = g) := by rw [← hg.out]; exact (if_neg ht).symm
   clear hr
   go_enter Try.func103, Try.ntmps103
   go_wp2_with (go_at_call 63; refine (b_div64q h l t g r _ hlt h3 h2 HG HR).mono ?_; rintro e' w' ⟨rfl, n, rfl⟩)
   go_ret
   exact ⟨rfl, n, rfl⟩
def TakeRel (R D M : Nat) (os : List Nat) (g b : Nat) : Prop := b ≤ 1 ∧ R + M * b = val os + D * g ∧ R < (g + 1) * D
theorem TakeRel.step {R D M : Nat} {os os2 : List Nat} {g c : Nat} (h : TakeRel R D M os g 1) (hM : val os < M) (hc : c ≤ 1) (he : val os2 + M * c = val os + D) : 0 < g ∧ TakeRel R D M os2 (g - 1) (1 - c) := by
 obtain ⟨_, h2, h3⟩ := h
 rw [Nat.mul_one] at h2
 have hg : 0 < g := by
   rcases Nat.eq_zero_or_pos g with h0 | h0
   · subst h0; simp at h2; omega
   · exact h0
 obtain ⟨k, rfl⟩ : ∃ k, g = k + 1 := ⟨g - 1, by omega⟩
 rw [Nat.mul_add, Nat.mul_one] at h2
 refine ⟨hg, by omega, ?_, ?_⟩
 · rw [Nat.add_sub_cancel]
   rcases (by omega : c = 0 ∨ c = 1) with rfl | rfl
   · simp at he ⊢; omega
   · simp at he ⊢; omega
 · rw [Nat.add_sub_cancel, Nat.mul_comm, Nat.mul_add, Nat.mul_one]; omega
theorem TakeRel.done {R D M : Nat} {os : List Nat} {g : Nat} (h : TakeRel R D M os g 0) : val os = R % D ∧ g = R / D := by
 obtain ⟨_, h2, h3⟩ := h
 rw [Nat.mul_zero, Nat.add_zero] at h2
 have hlt : val os < D := by
   rw [h2, Nat.add_mul, Nat.one_mul, Nat.mul_comm] at h3; omega
 have hD : 0 < D := by omega
 rw [h2, Nat.add_comm]
 constructor
 · rw [Nat.mul_add_mod, Nat.mod_eq_of_lt hlt]
 · rw [Nat.mul_add_div hD, Nat.div_eq_of_lt hlt, Nat.add_zero]
def TakePost (g n : Nat) (T : TypeId) (P p Q q : List Nat) (w : World) (e : Ending) (w' : World) : Prop :=
 ∃ (d : Nat) (os : List Nat), e = .returned (.int .u64 (d : Int)) ∧ d = val p / val q ∧ d < 18446744073709551616 ∧ os.length = n + 1 ∧ W64 os ∧ val os = val p % val q ∧ Arr w' g T (P ++ os ++ Q) ∧ Upd g w w'
set_option maxHeartbeats 2000000 in
theorem p_takeDigit (g o n ca gb ob cb : Nat) (T : TypeId) (P p Q q : List Nat) (w : World) (hA : Arr w g T (P ++ p ++ Q)) (hP : P.length = o) (hp : p.length = n + 1 + 1) (hq : q.length = n + 1) (hB : Reads w gb ob q) (hne : gb ≠ g) (hn : n ≤ 900) (wp : W64 p) (wq : W64 q) (hlt : val p < val q * 18446744073709551616) :
   Calls Try.prog 99 #[.slice (some ⟨g, o, none⟩) (n + 1 + 1) ca, .slice (some ⟨gb, ob, none⟩) (n + 1) cb] w (TakePost g (n + 1) T P p Q q w) := by
 have h1 : n + 1 < p.length := by omega
 have h2 : n < p.length := by omega
 have h3 : n < q.length := by omega
 have c1 := hA.seg hP (n + 1) h1
 have c2 := hA.seg hP n h2
 have c3 := hB.2 n h3
 obtain ⟨x, hx⟩ : ∃ x, p[n + 1] = x := ⟨_, rfl⟩
 obtain ⟨y, hy⟩ : ∃ y, p[n] = y := ⟨_, rfl⟩
 obtain ⟨z, hz⟩ : ∃ z, q[n] = z := ⟨_, rfl⟩
 rw [hx] at c1
 rw [hy] at c2
 rw [hz] at c3
 obtain ⟨g0, hg⟩ : ∃ g0, guessV x y z = g0 := ⟨_, rfl⟩
 have HG := hide hg
 have HGE := hide (guess_ge p q n g0 hp hq wp h1 h2 h3 (by rw [hx, hy, hz]; exact hg) hlt)
 have bx : x < 18446744073709551616 := by rw [← hx]; exact w64_get wp _ h1
 have b_y : y < 18446744073709551616 := by rw [← hy]; exact w64_get wp _ h2
 have bz : z < 18446744073709551616 := by rw [← hz]; exact w64_get wq _ h3
 have bg := HGE.out.2
 have HP := hide hP
 have Hp := hide hp
 have Hq := hide hq
 have HA := hide hA
 have HB := hide hB
 have hw1 : IntKind.i64.wrap ((n : Int) + 1 - 1) = (n : Int) := by rw [IntKind.wrap_i64]; omega
 have hw2 : (n : Int) + 1 - 1 = (n : Int) := by omega
 have hI1 : (n : Int) + 1 < (n : Int) + 1 + 1 := by omega
 have hI2 : (n : Int) < (n : Int) + 1 + 1 := by omega
 have hI3 : (n : Int) < (n : Int) + 1 := by omega
 obtain ⟨M, hM⟩ : ∃ M, 18446744073709551616 ^ (n + 1 + 1) = M := ⟨_, rfl⟩
 have HM := hide hM
 clear hP hp hq hA hB hx hy hz hg h1 h2 h3 hlt hM
 go_enter Try.func99, Try.ntmps99
 go_wp2_with fail
 go_quiet ((go_at_call 103; exact Calls.quiet_of (p_guessq x y z g0 _ b_y bz HG)))
 have HE := hide (ext_drewN w nq)
 go_wp2_with (go_at_call 104; refine (p_subProduct g o (n + 1) ca gb ob cb g0 T P p Q q _ (HA.out.ext HE.out) HP.out Hp.out Hq.out (HB.out.ext HE.out) hne (by omega) wp wq bg).mono ?_; rintro e' w'' ⟨b, os, rfl, hb, hl, wo, hv, hA2, hU2⟩; rw [HM.out] at hv; have HU := hide ((HE.out.upd g).trans hU2); have HA2 := hide hA2; have HV := hide hv; have HL := hide hl; clear hU2 hA2 hv hl)
 go_loopw [6, 7] (fun s t wr => ∃ (d b : Nat) (os : List Nat), s = .int .u64 d ∧ t = .int .u64 b ∧ b ≤ 1 ∧ d < 18446744073709551616 ∧ Hid (TakeRel (val p) (val q) M os d b) ∧ Hid (os.length = n + 1 + 1) ∧ W64 os ∧ Hid (Arr wr g T (P ++ os ++ Q)) ∧ Upd g w wr) (fun s _ _ => (intOf s).toNat)
 case atStart => exact ⟨g0, b, os, rfl, rfl, hb, bg, ⟨hb, HV.out, HGE.out.1⟩, HL, wo, HA2, HU.out⟩
 case round =>
   clear hb wo HU HA2 HV HL
   obtain ⟨d, b, os, rfl, rfl, hb, hd, HR, HL, wo, HA2, hU⟩ := hrel
   rcases (by omega : b = 0 ∨ b = 1) with rfl | rfl
   · have HD := hide HR.out.done
     go_wp2_with fail
     go_ret
     exact ⟨d, os, rfl, HD.out.2, hd, HL.out, wo, HD.out.1, HA2.out, hU⟩
   · obtain ⟨d', hd'⟩ : ∃ d', d = d' + 1 ∨ d = 0 ∧ d' = 0 := ⟨d - 1, by omega⟩
     have hM : val os < M := by
       have := val_lt os wo; rw [HL.out, HM.out] at this; exact this
     have hstep := fun c os2 h1 h2 => HR.out.step (c := c) (os2 := os2) hM h1 h2
     have HST := hide hstep
     have hpos : 0 < d := (hstep 0 [val os + val q] (by omega) (by simp [val])).1
     have hdd : d = d' + 1 := by omega
     have hw1' : IntKind.u64.wrap ((d : Int) - 1) = (d' : Int) := by rw [wrap_u64']; omega
     have hw2' : (d : Int) - 1 = (d' : Int) := by omega
     have HDD := hide hdd
     have hdlt : d' < d := by omega
     have HU := hide hU
     have HAR := hide ((HB.out.ext HE.out))
     clear hdd hd' hstep hM hU
     go_wp2_with (go_at_call 95; refine (p_addTo g o (n + 1 + 1) ca gb ob (n + 1) cb T P os Q q _ HA2.out HP.out HL.out Hq.out (HB.out.upd HU.out hne) hne (by omega) (by omega) wo wq).mono ?_; rintro e' w3 ⟨c2, os2, rfl, hc2, hl2, wo2, hv2, hA3, hU3⟩; rw [HM.out] at hv2; have HST2 := hide (HST.out c2 os2 hc2 hv2).2; have HA3 := hide hA3; have HU4 := hide (HU.out.trans hU3); have HL2 := hide hl2; have hw3 : IntKind.u64.wrap (1 - (c2 : Int)) = ((1 - c2 : Nat) : Int) := (by rw [wrap_u64']; omega); have hw4 : (1 : Int) - (c2 : Int) = ((1 - c2 : Nat) : Int) := (by omega); clear hA3 hU3 hv2 hl2)
     exact ⟨⟨d', 1 - c2, os2, rfl, rfl, by omega, by omega, by have := HST2.out; rw [show d' = d - 1 from by have := HDD.out; omega]; exact this, HL2.out, wo2, HA3, HU4.out⟩, by simp [intOf]; omega⟩
open Go Go.RowKit
def TwoWords (q r : Nat) (w : World) (e : Ending) (w' : World) : Prop := ∃ a b c d e' f g h : Nat, e = .returned (.tuple #[.agg #[.int .u64 (a : Int), .int .u64 (b : Int), .int .u64 (c : Int), .int .u64 (d : Int)], .agg #[.int .u64 (e' : Int), .int .u64 (f : Int), .int .u64 (g : Int), .int .u64 (h : Int)]]) ∧ W64 [a, b, c, d] ∧ W64 [e', f, g, h] ∧ mag4 a b c d = q ∧ mag4 e' f g h = r ∧ Ext w w'
theorem four_words (w : World) (a b c d e f g h : Nat) : ∃ W, ((((w.alloc (.cells #[.int .u64 (a : Int), .int .u64 (b : Int), .int .u64 (c : Int), .int .u64 (d : Int)] 107)).alloc (.cells #[.int .u64 (e : Int), .int .u64 (f : Int), .int .u64 (g : Int), .int .u64 (h : Int)] 107)).alloc (.cells #[.int .u64 0, .int .u64 0, .int .u64 0, .int .u64 0] 107)).alloc (.cells #[.int .u64 0, .int .u64 0, .int .u64 0, .int .u64 0] 107)) = W ∧
   Arr W w.heap.size 107 [a, b, c, d] ∧ Arr W (w.heap.size + 1) 107 [e, f, g, h] ∧ Arr W (w.heap.size + 1 + 1) 107 [0, 0, 0, 0] ∧ Arr W (w.heap.size + 1 + 1 + 1) 107 [0, 0, 0, 0] ∧ Ext w W := by
 have h := four_new w (.cells #[.int .u64 (a : Int), .int .u64 (b : Int), .int .u64 (c : Int), .int .u64 (d : Int)] 107) (.cells #[.int .u64 (e : Int), .int .u64 (f : Int), .int .u64 (g : Int), .int .u64 (h : Int)] 107) (.cells #[.int .u64 0, .int .u64 0, .int .u64 0, .int .u64 0] 107) (.cells #[.int .u64 0, .int .u64 0, .int .u64 0, .int .u64 0] 107)
 exact ⟨_, rfl, h.1, h.2.1, h.2.2.1, h.2.2.2, (((ext_alloc _ _).trans (ext_alloc _ _)).trans (ext_alloc _ _)).trans (ext_alloc _ _)⟩
set_option maxHeartbeats 2000000 in
theorem p_divWords_lt (a b c d e f g h n m : Nat) (hn : mag4 a b c d = n) (hm : mag4 e f g h = m) (w : World) (hw : W64 [a, b, c, d]) (hw' : W64 [e, f, g, h]) (hlt : n < m) :
   Calls Try.prog 88 #[.agg #[.int .u64 (a : Int), .int .u64 (b : Int), .int .u64 (c : Int), .int .u64 (d : Int)], .agg #[.int .u64 (e : Int), .int .u64 (f : Int), .int .u64 (g : Int), .int .u64 (h : Int)]] w (TwoWords (n / m) (n % m) w) := by
 obtain ⟨W, hW, A0, A1, A2, A3, E0⟩ := four_words w a b c d e f g h
 have HW := hide hW
 have HS : Hid (sgnN n m = -1) := if_pos hlt
 have HQ : Hid (mag4 0 0 0 0 = n / m ∧ mag4 a b c d = n % m) := ⟨by rw [Nat.div_eq_of_lt hlt]; rfl, by rw [Nat.mod_eq_of_lt hlt]; exact hn⟩
 have HN := hide hn
 have HM := hide hm
 obtain ⟨c0, c1, c2, c3, f0, f1, f2, f3⟩ := A0.four
 obtain ⟨d0, d1, d2, d3, g0, g1, g2, g3⟩ := A1.four
 clear hW hn hm hlt
 go_enter Try.func88, Try.ntmps88
 go_upto_region 1 with fail
 rw [HW.out]
 clear HW
 go_wp2_with (go_at_call 83; refine (p_cmpWords a b c d e f g h n m HN.out HM.out _ hw hw').mono ?_; rintro e' w' ⟨rfl, hE⟩; rw [HS.out]; have R0 := A0.ext hE; have R2 := A2.ext hE; have R3 := A3.ext hE; obtain ⟨c0, c1, c2, c3, f0, f1, f2, f3⟩ := R0.four; obtain ⟨i0, i1, i2, i3, j0, j1, j2, j3⟩ := R2.four; obtain ⟨k0, k1, k2, k3, l0, l1, l2, l3⟩ := R3.four; have E1 := E0.trans hE; clear hE)
 go_region
 all_goals go_wp2_with fail
 all_goals exact bodyPost_ret (v := .tuple #[.agg #[.int .u64 0, .int .u64 0, .int .u64 0, .int .u64 0], .agg #[.int .u64 (a : Int), .int .u64 (b : Int), .int .u64 (c : Int), .int .u64 (d : Int)]]) (by simp [results, Try.results88, go_sem, i0, i1, i2, i3, k0, k1, k2, k3]) rfl ⟨0, 0, 0, 0, a, b, c, d, rfl, (by intro x hx; simp at hx; omega), hw, HQ.out.1, HQ.out.2, (ext_four (ext_four E1 (by omega) _ _ _ _) (by omega) _ _ _ _).trans (ext_drew _)⟩
set_option maxHeartbeats 2000000 in
theorem p_divWords_one (a b c d e f g h n m : Nat) (hn : mag4 a b c d = n) (hm : mag4 e f g h = m) (w : World) (hw : W64 [a, b, c, d]) (hw' : W64 [e, f, g, h]) (hlt : ¬ n < m) (hlen : (limbs m).length = 1) :
   Calls Try.prog 88 #[.agg #[.int .u64 (a : Int), .int .u64 (b : Int), .int .u64 (c : Int), .int .u64 (d : Int)], .agg #[.int .u64 (e : Int), .int .u64 (f : Int), .int .u64 (g : Int), .int .u64 (h : Int)]] w (TwoWords (n / m) (n % m) w) := by
 obtain ⟨W, hW, A0, A1, A2, A3, E0⟩ := four_words w a b c d e f g h
 have hml : m < 18446744073709551616 := by have := (limbs_len_le (n := m) (k := 1)).1 (by omega); simpa using this
 have hem : e = m := by simp only [mag4, val] at hm; omega
 have he := (w64_four hw').1
 have hm0 : 0 < e := by
   rcases Nat.eq_zero_or_pos m with h0 | h0
   · rw [h0, limbs_zero] at hlen; simp at hlen
   · omega
 have HEM := hide hem
 have h01 : (0 : Int) ≤ sgnN n m := by unfold sgnN; rw [if_neg hlt]; split <;> omega
 obtain ⟨q, hq⟩ : ∃ q, sgnN n m = q := ⟨_, rfl⟩
 rw [hq] at h01
 have HS := hide hq
 have HLN := hide hlen
 have HW := hide hW
 have HN := hide hn
 have HM := hide hm
 obtain ⟨c0, c1, c2, c3, f0, f1, f2, f3⟩ := A0.four
 obtain ⟨d0, d1, d2, d3, g0, g1, g2, g3⟩ := A1.four
 clear hW hn hm hem hlt hq hlen hml
 go_enter Try.func88, Try.ntmps88
 go_upto_region 1 with fail
 rw [HW.out]
 clear HW
 go_wp2_with (first
   | (go_at_call 83; refine (p_cmpWords a b c d e f g h n m HN.out HM.out _ hw hw').mono ?_; rintro e' w' ⟨rfl, hE⟩; rw [HS.out]; have R0 := A0.ext hE; have R1 := A1.ext hE; have R2 := A2.ext hE; have R3 := A3.ext hE; obtain ⟨c0, c1, c2, c3, f0, f1, f2, f3⟩ := R0.four; obtain ⟨d0, d1, d2, d3, g0, g1, g2, g3⟩ := R1.four; have E1 := E0.trans hE; clear hE)
   | (go_at_call 96; refine (p_length e f g h m HM.out _ hw').mono ?_; rintro e' w' ⟨rfl, hE⟩; rw [HLN.out]; have R0 := R0.ext hE; have R1 := R1.ext hE; have R2 := R2.ext hE; have R3 := R3.ext hE; obtain ⟨c0, c1, c2, c3, f0, f1, f2, f3⟩ := R0.four; obtain ⟨d0, d1, d2, d3, g0, g1, g2, g3⟩ := R1.four; have E1 := E1.trans hE; clear hE)
   | (go_at_call 97; refine (p_divWord a b c d n e HN.out _ hw hm0 he).mono ?_; rintro e' w' ⟨a1, b1, c1', d1', r, rfl, hw1, hq, hr, hE⟩; rw [HEM.out] at hq hr; have HQ := hide hq; have HR := hide hr; have R2 := R2.ext hE; have R3 := R3.ext hE; obtain ⟨i0, i1, i2, i3, j0, j1, j2, j3⟩ := R2.four; obtain ⟨k0, k1, k2, k3, l0, l1, l2, l3⟩ := R3.four; have E1 := E1.trans hE; have y2 := R2.lt; have y3 := R3.lt; clear hE hq hr))
 all_goals exact bodyPost_ret (v := .tuple #[.agg #[.int .u64 (a1 : Int), .int .u64 (b1 : Int), .int .u64 (c1' : Int), .int .u64 (d1' : Int)], .agg #[.int .u64 (r : Int), .int .u64 0, .int .u64 0, .int .u64 0]]) (by simp [results, Try.results88, go_sem, i0, i1, i2, i3, k0, k1, k2, k3, y2, y3]) rfl ⟨a1, b1, c1', d1', r, 0, 0, 0, rfl, hw1, (by have := HR.out; have := Nat.mod_lt n (show 0 < m by rw [← HEM.out]; exact hm0); have := HEM.out; intro x hx; simp at hx; omega), HQ.out, (by have := HR.out; simp [mag4, val]; exact this), (ext_four (ext_four E1 (by omega) _ _ _ _) (by omega) _ _ _ _).trans (ext_alloc _ _)⟩
open Go Go.RowKit
def LongRel (N D : Nat) (R Q : List Nat) (j : Nat) : Prop := R.length = 5 ∧ Q.length = 4 ∧ val Q * D + val R = N ∧ val (R.drop j) < D ∧ Q.take j = List.replicate j 0
theorem val_set_zero (Q : List Nat) (i d : Nat) (hi : i < Q.length) (h0 : Q[i] = 0) : val (Q.set i d) = val Q + 18446744073709551616 ^ i * d := by
 have e1 := val_append (Q.take i) (Q.drop i)
 have e2 := val_append (Q.take i) (d :: Q.drop (i + 1))
 rw [List.take_append_drop] at e1
 have e3 : Q.set i d = Q.take i ++ d :: Q.drop (i + 1) := List.set_eq_take_append_cons_drop.trans (if_pos hi)
 rw [e3, e2, e1, List.drop_eq_getElem_cons hi, h0, val, val, List.length_take, Nat.min_eq_left (by omega), Nat.mul_add, Nat.mul_add]
 omega
theorem seg_zero (D K x y z : Nat) (h : x = y + K * z) (hx : x < D) (hK : D ≤ K) : z = 0 := by
 rcases Nat.eq_zero_or_pos z with h0 | h0
 · exact h0
 · exfalso
   have h1 : K ≤ K * z := Nat.le_mul_of_pos_right K h0
   omega
theorem seg_lt (D a x r : Nat) (ha : a < 18446744073709551616) (hx : x < D) (hr : r = a + 18446744073709551616 * x) : r < D * 18446744073709551616 := by omega
theorem long_seg {N D K : Nat} {R Q : List Nat} {i k : Nat} (h : LongRel N D R Q (i + 1)) (hk : i + k + 1 ≤ 5) (hK : 18446744073709551616 ^ k = K) (hD : D ≤ K) (wR : W64 R) :
   val ((R.drop i).take (k + 1)) = val (R.drop i) ∧ val (R.drop i) < D * 18446744073709551616 ∧ val (R.drop (i + k + 1)) = 0 := by
 obtain ⟨h1, h2, h3, h4, h5⟩ := h
 have hi : i < R.length := by omega
 have e1 := val_drop R i hi
 have e2 := val_take_drop (R.drop (i + 1)) k (by simp; omega)
 rw [List.drop_drop, hK] at e2
 have hz : val (R.drop (i + 1 + k)) = 0 := seg_zero D K _ _ _ e2 h4 hD
 rw [show i + k + 1 = i + 1 + k by omega]
 refine ⟨?_, seg_lt D _ _ _ (w64_get wR i hi) h4 e1, hz⟩
 have e3 := val_take_drop (R.drop i) (k + 1) (by simp; omega)
 rw [List.drop_drop, show i + (k + 1) = i + 1 + k by omega, hz, Nat.mul_zero, Nat.add_zero] at e3
 exact e3.symm
theorem zeros_at (Q : List Nat) (i : Nat) (h : Q.take (i + 1) = List.replicate (i + 1) 0) (hi : i < Q.length) : Q[i] = 0 := by
 have := congrArg (fun l => l[i]?) h
 simp only [List.getElem?_take, Nat.lt_succ_self, if_true] at this
 rw [List.getElem?_eq_getElem hi, List.getElem?_replicate, if_pos (Nat.lt_succ_self i)] at this
 exact Option.some.inj this
theorem long_arith (N D K vq vr a p q r d : Nat) (h3 : vq * D + vr = N) (e : vr = a + K * p) (hp : p = d * D + r) (hq : q = vq + K * d) : q * D + (a + K * r) = N := by
 subst hq
 have h1 : K * p = K * (d * D) + K * r := by rw [hp, Nat.mul_add]
 rw [Nat.add_mul, Nat.mul_assoc]
 omega
theorem long_step {N D K : Nat} {R Q os : List Nat} {i k d : Nat} (h : LongRel N D R Q (i + 1)) (hk : i + k + 1 ≤ 5) (hk2 : 2 ≤ k) (hK : 18446744073709551616 ^ k = K) (hD : D ≤ K) (hD0 : 0 < D) (wR : W64 R) (ho : os.length = k + 1) (hv : val os = val ((R.drop i).take (k + 1)) % D) (hd : d = val ((R.drop i).take (k + 1)) / D) :
   LongRel N D (R.take i ++ os ++ R.drop (i + k + 1)) (Q.set i d) i := by
 obtain ⟨s1, s2, s3⟩ := long_seg h hk hK hD wR
 obtain ⟨h1, h2, h3, h4, h5⟩ := h
 rw [s1] at hv hd
 have hT : (R.take i).length = i := by simp; omega
 have e1 := val_take_drop R i (by omega)
 have hQ : i < Q.length := by omega
 have e4 := val_set_zero Q i d hQ (zeros_at Q i h5 hQ)
 have e5 : val (R.take i ++ os ++ R.drop (i + k + 1)) = val (R.take i) + 18446744073709551616 ^ i * val os := by
   rw [val_append, val_append, s3, hT, Nat.mul_zero, Nat.add_zero]
 refine ⟨by simp [hT, ho]; omega, by simpa using h2, ?_, ?_, ?_⟩
 · rw [e5]
   have hm := Nat.div_add_mod (val (R.drop i)) D
   rw [← hd, ← hv, Nat.mul_comm] at hm
   exact long_arith N D (18446744073709551616 ^ i) _ _ _ _ _ _ d h3 e1 hm.symm e4
 · rw [List.append_assoc, List.drop_append_of_le_length (by omega), List.drop_of_length_le (by omega), List.nil_append, val_append, s3, Nat.mul_zero, Nat.add_zero, hv]
   exact Nat.mod_lt _ hD0
 · rw [List.take_set_of_le (Nat.le_refl _)]
   have := congrArg (List.take i) h5
   rw [List.take_take, Nat.min_eq_left (by omega), List.take_replicate, Nat.min_eq_left (by omega)] at this
   exact this
theorem long_done {n m s : Nat} {R Q : List Nat} (h : LongRel (n * 2 ^ s) (m * 2 ^ s) R Q 0) : val Q = n / m ∧ val R / 2 ^ s = n % m ∧ val R < m * 2 ^ s := by
 obtain ⟨h1, h2, h3, h4, h5⟩ := h
 rw [List.drop_zero] at h4
 have ps := Nat.two_pow_pos s
 have hd : 2 ^ s ∣ val R := by
   have h7 : 2 ^ s ∣ val Q * (m * 2 ^ s) + val R := by rw [h3]; exact Nat.dvd_mul_left _ _
   exact (Nat.dvd_add_right (by rw [← Nat.mul_assoc]; exact Nat.dvd_mul_left _ _)).1 h7
 have hR := Nat.div_mul_cancel hd
 have hlt : val R / 2 ^ s < m := by rw [Nat.div_lt_iff_lt_mul ps]; exact h4
 have hX : n = val Q * m + val R / 2 ^ s := by
   have h8 : n * 2 ^ s = (val Q * m + val R / 2 ^ s) * 2 ^ s := by rw [Nat.add_mul (val Q * m), hR, Nat.mul_assoc]; exact h3.symm
   exact Nat.eq_of_mul_eq_mul_right ps h8
 have hm : 0 < m := Nat.lt_of_le_of_lt (Nat.zero_le _) hlt
 refine ⟨?_, ?_, h4⟩
 · rw [hX, Nat.mul_comm, Nat.mul_add_div hm, Nat.div_eq_of_lt hlt, Nat.add_zero]
 · conv => rhs; rw [hX, Nat.mul_comm, Nat.mul_add_mod, Nat.mod_eq_of_lt hlt]
theorem top_arith (m lo K t s : Nat) (hs : s < 64) (hm : m = lo + K * t) (hlo : lo < K) (ht : t * 2 ^ s < 18446744073709551616) : m * 2 ^ s < K * 18446744073709551616 := by
 have hp := two64 s (by omega)
 have ps := Nat.two_pow_pos s
 have h1 : t < 2 ^ (64 - s) := by
   rw [hp, Nat.mul_comm] at ht
   exact Nat.lt_of_mul_lt_mul_left ht
 have h2 : m < K * (t + 1) := by rw [Nat.mul_add, Nat.mul_one]; omega
 have h3 : m * 2 ^ s < K * (t + 1) * 2 ^ s := Nat.mul_lt_mul_of_pos_right h2 ps
 have h4 : K * (t + 1) * 2 ^ s ≤ K * 2 ^ (64 - s) * 2 ^ s := Nat.mul_le_mul_right _ (Nat.mul_le_mul_left _ h1)
 rw [Nat.mul_assoc K (2 ^ (64 - s)), Nat.mul_comm (2 ^ (64 - s)), ← hp] at h4
 exact Nat.lt_of_lt_of_le h3 h4
theorem top_word (M : List Nat) (m k : Nat) (hM : M.length = 4) (wM : W64 M) (hv : val M = m) (hk : (limbs m).length = k + 1) (hk4 : k < M.length) :
   1 ≤ M[k] ∧ 18446744073709551616 ^ k ≤ m ∧ ∀ s, s < 64 → M[k] * 2 ^ s < 18446744073709551616 → m * 2 ^ s < 18446744073709551616 ^ (k + 1) := by
 have h1 := (limbs_len_le (n := m) (k := k + 1)).1 (by omega)
 have h2 : ¬ m < 18446744073709551616 ^ k := fun e => by have := limbs_len_le.2 e; omega
 have e1 := val_take_drop M (k + 1) (by omega)
 have e2 := val_take_succ M k hk4
 have h3 := val_lt (M.take k) (w64_take wM k)
 rw [List.length_take, Nat.min_eq_left (by omega)] at h3
 rw [hv] at e1
 rw [Nat.pow_succ] at h1 e1
 rw [Nat.pow_succ]
 generalize 18446744073709551616 ^ k = K at *
 have hz : val (M.drop (k + 1)) = 0 := seg_zero (K * 18446744073709551616) (K * 18446744073709551616) m _ _ e1 h1 (Nat.le_refl _)
 rw [hz, Nat.mul_zero, Nat.add_zero, e2] at e1
 refine ⟨?_, by omega, fun s hs ht => top_arith m _ K M[k] s hs e1 h3 ht⟩
 rcases Nat.eq_zero_or_pos M[k] with h | h
 · rw [h, Nat.mul_zero, Nat.add_zero] at e1; omega
 · exact h
theorem up_take (U : List Nat) (r D k : Nat) (hU : U.length = 4) (hk : k ≤ 4) (hv : val U + 115792089237316195423570985008687907853269984665640564039457584007913129639936 * r = D) (hD : D < 18446744073709551616 ^ k) : val (U.take k) = D := by
 have h4 : (18446744073709551616 : Nat) ^ k ≤ 115792089237316195423570985008687907853269984665640564039457584007913129639936 := by rw [← p4]; exact Nat.pow_le_pow_right (by omega) hk
 have e1 := val_take_drop U k (by omega)
 generalize 18446744073709551616 ^ k = K at *
 have hr : r = 0 := by omega
 subst hr
 rw [Nat.mul_zero, Nat.add_zero] at hv
 rw [hv] at e1
 have hz := seg_zero K K D _ _ e1 hD (Nat.le_refl _)
 rw [hz, Nat.mul_zero, Nat.add_zero] at e1
 exact e1.symm
theorem long_init (L : List Nat) (over n m s k : Nat) (hL : L.length = 4) (hv : val L + 115792089237316195423570985008687907853269984665640564039457584007913129639936 * over = n * 2 ^ s) (hn : n < 115792089237316195423570985008687907853269984665640564039457584007913129639936) (hk : k + 1 ≤ 4) (hm : 18446744073709551616 ^ k ≤ m) :
   LongRel (n * 2 ^ s) (m * 2 ^ s) (L ++ [over]) [0, 0, 0, 0] (4 - k) := by
 have ps := Nat.two_pow_pos s
 have e0 : val (L ++ [over]) = n * 2 ^ s := by rw [val_snoc, hL, p4]; exact hv
 have e1 := val_take_drop (L ++ [over]) (4 - k) (by simp [hL]; omega)
 rw [e0] at e1
 refine ⟨by simp [hL], rfl, by simp [val]; rw [val_snoc, hL, p4]; exact hv, ?_, ?_⟩
 · have hp : (115792089237316195423570985008687907853269984665640564039457584007913129639936 : Nat) = 18446744073709551616 ^ (4 - k) * 18446744073709551616 ^ k := by rw [← Nat.pow_add, show 4 - k + k = 4 by omega, p4]
   have h1 : n * 2 ^ s < 115792089237316195423570985008687907853269984665640564039457584007913129639936 * 2 ^ s := Nat.mul_lt_mul_of_pos_right hn ps
   rw [hp, Nat.mul_assoc] at h1
   have h2 : 18446744073709551616 ^ k * 2 ^ s ≤ m * 2 ^ s := Nat.mul_le_mul_right _ hm
   have h3 : 18446744073709551616 ^ (4 - k) * val ((L ++ [over]).drop (4 - k)) < 18446744073709551616 ^ (4 - k) * (18446744073709551616 ^ k * 2 ^ s) := Nat.lt_of_le_of_lt (by rw [e1]; exact Nat.le_add_left _ _) h1
   exact Nat.lt_of_lt_of_le (Nat.lt_of_mul_lt_mul_left h3) h2
 · have : 4 - k = 0 ∨ 4 - k = 1 ∨ 4 - k = 2 ∨ 4 - k = 3 ∨ 4 - k = 4 := by omega
   rcases this with h | h | h | h | h <;> rw [h] <;> rfl
end
section
open Go Go.RowKit
theorem slHead (T n g : Nat) (h : Int) (m : Nat) (hm : h = ((m : Nat) : Int)) (hT : Try.prog.underlying T = some (.array (Try.prog.arrayLen T) (Try.prog.elem T))) (hn : Try.prog.arrayLen T = n) (he : Try.prog.elem T = 22) (h2 : m ≤ n) (h3 : 0 < n) (w : World) :
   (Instr.sliceAt T (.pointer (some ⟨g, 0, none⟩)) none (some (.int .i64 h)) none).run Try.prog w = .ok (.slice (some ⟨g, 0, none⟩) m n) w := by
 subst hm
 rw [run_sliceAt_array_h w T ⟨g, 0, none⟩ hT .i64 (m : Int) (by omega) (by rw [hn]; omega), he, Try.sizeOf22, hn]
 simp only [Result.andThen_ok, slicedAt, Int.toNat_natCast, Nat.mul_one, Nat.sub_zero]
 rw [if_neg (by omega)]
 simp [Addr.add]
theorem five_list {L : List Nat} (h : L.length = 5) : ∃ a b c d e, L = [a, b, c, d, e] := by
 match L, h with
 | [a, b, c, d, e], _ => exact ⟨a, b, c, d, e, rfl⟩
theorem five_top {a b c d e : Nat} (h : val [a, b, c, d, e] < 115792089237316195423570985008687907853269984665640564039457584007913129639936) : mag4 a b c d = val [a, b, c, d, e] := by
 simp only [mag4, val] at h ⊢; omega
theorem copy4 (w : World) (g b : Nat) (v0 v1 v2 v3 : Nat) (hg : Arr w g 128 [0, 0, 0, 0, 0]) (hb : Arr w b 107 [v0, v1, v2, v3]) :
   (Builtin.copy_ #[68, 68] 3 #[.slice (some ⟨g, 0, none⟩) 5 5, .slice (some ⟨b, 0, none⟩) 4 4]).run Try.prog w = .ok (.int .i64 4) ((((w.setCell ⟨g, 0, none⟩ (.int .u64 (v0 : Int))).setCell ⟨g, 1, none⟩ (.int .u64 (v1 : Int))).setCell ⟨g, 2, none⟩ (.int .u64 (v2 : Int))).setCell ⟨g, 3, none⟩ (.int .u64 (v3 : Int))) := by
 have h := run_copy_cells (P := Try.prog) w 68 68 3 22 g 0 5 5 ⟨b, 0, none⟩ 4 4 [.int .u64 (v0 : Int), .int .u64 (v1 : Int), .int .u64 (v2 : Int), .int .u64 (v3 : Int)] Try.underlying68 (by kernel_rfl) rfl
   (fun j v hj => by
     have hj4 : j < 4 := by have := (List.getElem?_eq_some_iff.1 hj).1; simpa using this
     have : j = 0 ∨ j = 1 ∨ j = 2 ∨ j = 3 := by omega
     obtain ⟨i0, i1, i2, i3, _, _, _, _⟩ := hb.four
     rcases this with rfl | rfl | rfl | rfl <;> (simp at hj; subst hj; simpa [Addr.add] using by assumption))
   (fun j hj => by
     simp at hj
     have := hg.at (0 + j) (by simp; omega)
     rw [this]; rfl)
   (fun j _ => hg.free _) (fun v hv => by simp at hv; rcases hv with rfl | rfl | rfl | rfl <;> rfl)
 simpa [World.setCells, goInt] using h
set_option maxRecDepth 100000 in
set_option maxHeartbeats 4000000 in
theorem p_divWords_many (a b c d e f g h n m k : Nat) (hn : mag4 a b c d = n) (hm : mag4 e f g h = m) (w : World) (hw : W64 [a, b, c, d]) (hw' : W64 [e, f, g, h]) (hlt : ¬ n < m) (hlen : (limbs m).length = k + 1) (hk0 : 1 ≤ k) (hk3 : k ≤ 3) :
   Calls Try.prog 88 #[.agg #[.int .u64 (a : Int), .int .u64 (b : Int), .int .u64 (c : Int), .int .u64 (d : Int)], .agg #[.int .u64 (e : Int), .int .u64 (f : Int), .int .u64 (g : Int), .int .u64 (h : Int)]] w (TwoWords (n / m) (n % m) w) := by
 obtain ⟨W, hW, A0, A1, A2, A3, E0⟩ := four_words w a b c d e f g h
 have h01 : (0 : Int) ≤ sgnN n m := by unfold sgnN; rw [if_neg hlt]; split <;> omega
 obtain ⟨q, hq⟩ : ∃ q, sgnN n m = q := ⟨_, rfl⟩
 rw [hq] at h01
 have HS := hide hq
 have hkM : k < [e, f, g, h].length := by simp; omega
 have HTW := hide (top_word [e, f, g, h] m k rfl hw' hm hlen hkM)
 obtain ⟨t, ht⟩ : ∃ t, [e, f, g, h][k] = t := ⟨_, rfl⟩
 have HT := hide ht
 have bt : t < 18446744073709551616 := by rw [← ht]; exact w64_get hw' k hkM
 have bt0 : 0 < t := by have := HTW.out.1; rw [ht] at this; omega
 have HLN : Hid (((limbs m).length : Int) = (k : Int) + 1) := by unfold Hid; rw [hlen]; omega
 have hk1 : (((k : Int) + 1) == 1) = false := by simp; omega
 have hw1 : IntKind.i64.wrap ((k : Int) + 1 - 1) = (k : Int) := by rw [IntKind.wrap_i64]; omega
 have hw2 : (k : Int) + 1 - 1 = (k : Int) := by omega
 have hw3 : IntKind.i64.wrap (4 - ((k : Int) + 1)) = 4 - ((k : Int) + 1) := by rw [IntKind.wrap_i64]; omega
 have hsl := fun g => slHead 107 4 g ((k : Int) + 1) (k + 1) (by omega) (by kernel_rfl) (by kernel_rfl) (by kernel_rfl) (by omega) (by omega)
 have HW := hide hW
 have HN := hide hn
 have HM := hide hm
 obtain ⟨c0, c1, c2, c3, f0, f1, f2, f3⟩ := A0.four
 obtain ⟨d0, d1, d2, d3, g0, g1, g2, g3⟩ := A1.four
 clear hW hn hm hlt hq hlen ht
 go_enter Try.func88, Try.ntmps88
 go_upto_region 1 with fail
 rw [HW.out]
 clear HW
 go_wp2_with (first
   | (go_at_call 83; refine (p_cmpWords a b c d e f g h n m HN.out HM.out _ hw hw').mono ?_; rintro e' w' ⟨rfl, hE⟩; rw [HS.out]; have R0 := A0.ext hE; have R1 := A1.ext hE; have R2 := A2.ext hE; have R3 := A3.ext hE; obtain ⟨c0, c1, c2, c3, f0, f1, f2, f3⟩ := R0.four; obtain ⟨d0, d1, d2, d3, g0, g1, g2, g3⟩ := R1.four; have E1 := E0.trans hE; clear hE)
   | (go_at_call 96; refine (p_length e f g h m HM.out _ hw').mono ?_; rintro e' w' ⟨rfl, hE⟩; rw [HLN.out]; have R0 := R0.ext hE; have R1 := R1.ext hE; have R2 := R2.ext hE; have R3 := R3.ext hE; obtain ⟨c0, c1, c2, c3, f0, f1, f2, f3⟩ := R0.four; obtain ⟨d0, d1, d2, d3, g0, g1, g2, g3⟩ := R1.four; have ck := R1.at k hkM; rw [HT.out] at ck; have E1 := E1.trans hE; clear hE)
   | (go_at_call 74; refine (b_lz t _ bt bt0).mono ?_; rintro e w' ⟨s, rfl, k1, k2, k3, rfl⟩; have HDB := hide (HTW.out.2.2 s k1 (by rw [HT.out]; exact k2)); clear k2 k3)
   | (go_at_call_of 98 (Value.agg #[Value.int IntKind.u64 (e : Int), Value.int IntKind.u64 (f : Int), Value.int IntKind.u64 (g : Int), Value.int IntKind.u64 (h : Int)]); refine (p_shiftUp e f g h m s HM.out _ hw' k1).mono ?_; rintro e' w' ⟨u0, u1, u2, u3, r, rfl, wu, hu, hr, hE⟩; have HU := hide hu; have R0 := R0.ext hE; have R2 := R2.ext hE; have R3 := R3.ext hE; obtain ⟨c0, c1, c2, c3, f0, f1, f2, f3⟩ := R0.four; have l0 := R0.lt; have E1 := E1.trans hE; clear hE hu)
   | (go_at_call 98; refine (p_shiftUp a b c d n s HN.out _ hw k1).mono ?_; rintro e' w'' ⟨v0, v1, v2, v3, o, rfl, wv, hv, ho, hE⟩; have HV := hide hv; obtain ⟨bU, bR⟩ := two_kept hE; have AU : Arr w'' w'.heap.size 107 [u0, u1, u2, u3] := bU; have AR : Arr w'' (w'.heap.size + 1) 128 [0, 0, 0, 0, 0] := bR; have AQ := ((R2.ext (ext_alloc _ _)).ext (ext_alloc _ _)).ext hE; have AT := ((R3.ext (ext_alloc _ _)).ext (ext_alloc _ _)).ext hE; have E2 := ((E1.trans (ext_alloc _ _)).trans (ext_alloc _ _)).trans hE; have lU := R2.lt; have lT := R3.lt; clear hE hv bU bR))
 have hA4 := arr_new w'' 107 [v0, v1, v2, v3] #[.int .u64 (v0 : Int), .int .u64 (v1 : Int), .int .u64 (v2 : Int), .int .u64 (v3 : Int)] rfl
 have x1 := AU.ext (ext_alloc w'' (.cells #[.int .u64 (v0 : Int), .int .u64 (v1 : Int), .int .u64 (v2 : Int), .int .u64 (v3 : Int)] 107))
 have x2 := AR.ext (ext_alloc w'' (.cells #[.int .u64 (v0 : Int), .int .u64 (v1 : Int), .int .u64 (v2 : Int), .int .u64 (v3 : Int)] 107))
 have x3 := AQ.ext (ext_alloc w'' (.cells #[.int .u64 (v0 : Int), .int .u64 (v1 : Int), .int .u64 (v2 : Int), .int .u64 (v3 : Int)] 107))
 have x4 := AT.ext (ext_alloc w'' (.cells #[.int .u64 (v0 : Int), .int .u64 (v1 : Int), .int .u64 (v2 : Int), .int .u64 (v3 : Int)] 107))
 have x5 := E2.trans (ext_alloc w'' (.cells #[.int .u64 (v0 : Int), .int .u64 (v1 : Int), .int .u64 (v2 : Int), .int .u64 (v3 : Int)] 107))
 have lR := AR.lt
 generalize w''.alloc (.cells #[.int .u64 (v0 : Int), .int .u64 (v1 : Int), .int .u64 (v2 : Int), .int .u64 (v3 : Int)] 107) = W2 at *
 generalize w''.heap.size = gL at *
 have r0 := x2.at 0 (by simp)
 have r1 := x2.at 1 (by simp)
 have r2 := x2.at 2 (by simp)
 have r3 := x2.at 3 (by simp)
 have r4 := x2.at 4 (by simp)
 simp only [List.getElem_cons_zero, List.getElem_cons_succ] at r0 r1 r2 r3 r4
 have q0 := x2.free 0
 have q1 := x2.free 1
 have q2 := x2.free 2
 have q3 := x2.free 3
 have q4 := x2.free 4
 obtain ⟨i0, i1, i2, i3, j0, j1, j2, j3⟩ := hA4.four
 have hcp := copy4 W2.drew (w'.heap.size + 1) gL v0 v1 v2 v3 x2.drew hA4.drew
 have y2 := hide ((((x2.drew.set 0 v0).set 1 v1).set 2 v2).set 3 v3)
 have y1 := hide ((((x1.drew.far (b := w'.heap.size + 1) (by omega) 0 (.int .u64 (v0 : Int))).far (b := w'.heap.size + 1) (by omega) 1 (.int .u64 (v1 : Int))).far (b := w'.heap.size + 1) (by omega) 2 (.int .u64 (v2 : Int))).far (b := w'.heap.size + 1) (by omega) 3 (.int .u64 (v3 : Int)))
 have y3 := hide ((((x3.drew.far (b := w'.heap.size + 1) (by omega) 0 (.int .u64 (v0 : Int))).far (b := w'.heap.size + 1) (by omega) 1 (.int .u64 (v1 : Int))).far (b := w'.heap.size + 1) (by omega) 2 (.int .u64 (v2 : Int))).far (b := w'.heap.size + 1) (by omega) 3 (.int .u64 (v3 : Int)))
 have y4 := hide ((((x4.drew.far (b := w'.heap.size + 1) (by omega) 0 (.int .u64 (v0 : Int))).far (b := w'.heap.size + 1) (by omega) 1 (.int .u64 (v1 : Int))).far (b := w'.heap.size + 1) (by omega) 2 (.int .u64 (v2 : Int))).far (b := w'.heap.size + 1) (by omega) 3 (.int .u64 (v3 : Int)))
 have y5 := hide (ext_four (x5.trans (ext_drew _)) (b := w'.heap.size + 1) (by have := E1.size; omega) (.int .u64 (v0 : Int)) (.int .u64 (v1 : Int)) (.int .u64 (v2 : Int)) (.int .u64 (v3 : Int)))
 have HE1 := hide E1
 clear AU AR AQ AT E2
 go_cut [] (fun wx => Arr wx (w'.heap.size + 1) 128 [v0, v1, v2, v3, 0] ∧ Arr wx w'.heap.size 107 [u0, u1, u2, u3] ∧ Arr wx (w.heap.size + 1 + 1) 107 [0, 0, 0, 0] ∧ Arr wx (w.heap.size + 1 + 1 + 1) 107 [0, 0, 0, 0] ∧ Ext w wx)
 case first =>
   go_region
   all_goals go_wp2_with fail
   all_goals go_meet
   all_goals exact ⟨y2.out, y1.out, y3.out, y4.out, y5.out⟩
 case rest =>
   clear y1 y2 y3 y4 y5 x1 x2 x3 x4 x5 hA4 hcp
   obtain ⟨y2, y1, y3, y4, y5⟩ := hcut
   have r4 := y2.at 4 (by simp)
   have q4 := y2.free 4
   simp only [List.getElem_cons_zero, List.getElem_cons_succ] at r4
   have HI := hide (long_init [v0, v1, v2, v3] o n m s k rfl HV.out (by have := mag_lt (w64_four hw).1 (w64_four hw).2.1 (w64_four hw).2.2.1 (w64_four hw).2.2.2; rw [HN.out] at this; exact this) (by omega) HTW.out.2.1)
   have HUT := hide (up_take [u0, u1, u2, u3] r (m * 2 ^ s) (k + 1) rfl (by omega) HU.out HDB.out)
   have wo : o < 18446744073709551616 := Nat.lt_of_lt_of_le ho (Nat.le_trans (Nat.pow_le_pow_right (by omega) (Nat.le_of_lt k1)) (by decide))
   have wR0 : W64 [v0, v1, v2, v3, o] := by
     obtain ⟨b0, b1, b2, b3⟩ := w64_four wv
     intro x hx; simp at hx; omega
   have z2 := hide (y2.set 4 o)
   have z1 := hide (y1.far (b := w'.heap.size + 1) (by omega) 4 (.int .u64 (o : Int)))
   have z3 := hide (y3.far (b := w'.heap.size + 1) (by omega) 4 (.int .u64 (o : Int)))
   have z4 := hide (y4.far (b := w'.heap.size + 1) (by omega) 4 (.int .u64 (o : Int)))
   have z5 := hide (ext_set y5 (g := w'.heap.size + 1) (by have := HE1.out.size; omega) 4 (.int .u64 (o : Int)))
   have HDP : Hid (0 < m * 2 ^ s) := by
     have h1 := HTW.out.2.1
     have h2 : 0 < 18446744073709551616 ^ k := Nat.pow_pos (by omega)
     exact Nat.mul_pos (Nat.lt_of_lt_of_le h2 h1) (Nat.two_pow_pos s)
   have hsz := HE1.out.size
   obtain ⟨K, hK⟩ : ∃ K, 18446744073709551616 ^ (k + 1) = K := ⟨_, rfl⟩
   have HK := hide hK
   have HDK : Hid (m * 2 ^ s ≤ K) := by rw [← hK]; exact Nat.le_of_lt HDB.out
   have gne : w'.heap.size ≠ w'.heap.size + 1 := by omega
   clear hK y1 y2 y3 y4 y5
   go_wp2_with fail
   go_loopw [16] (fun i wr => ∃ (j : Nat) (R Q : List Nat), i = .int .i64 ((j : Int) - 1) ∧ j ≤ 4 - k ∧ Hid (LongRel (n * 2 ^ s) (m * 2 ^ s) R Q j) ∧ W64 R ∧ W64 Q ∧ Hid (Arr wr (w'.heap.size + 1) 128 R) ∧ Hid (Arr wr w'.heap.size 107 [u0, u1, u2, u3]) ∧ Hid (Arr wr (w.heap.size + 1 + 1) 107 Q) ∧ Hid (Arr wr (w.heap.size + 1 + 1 + 1) 107 [0, 0, 0, 0]) ∧ Ext w wr) (fun i _ => (intOf i + 1).toNat)
   case atStart => exact ⟨4 - k, [v0, v1, v2, v3, o], [0, 0, 0, 0], by go_num, by omega, HI.out, wR0, (by intro x hx; simp at hx; omega), z2, z1, z3, z4, z5.out⟩
   case round =>
     clear z1 z2 z3 z4 z5 r4 q4
     obtain ⟨j, R, Q, rfl, hj, HR, wR, wQ, z2, z1, z3, z4, hE⟩ := hrel
     by_cases hj0 : j = 0
     · subst hj0
       have HF := hide (long_done HR.out)
       obtain ⟨r0, r1, r2, r3, r5, rfl⟩ := five_list HR.out.1
       obtain ⟨q0', q1', q2', q3', rfl⟩ := four_list HR.out.2.1
       have wr4 : W64 [r0, r1, r2, r3] := fun x hx => wR x (by simp at hx ⊢; omega)
       have HR4 : Hid (mag4 r0 r1 r2 r3 = val [r0, r1, r2, r3, r5]) := by
         have h1 := HF.out.2.2
         have h2 := HDB.out
         have h3 : (18446744073709551616 : Nat) ^ (k + 1) ≤ 115792089237316195423570985008687907853269984665640564039457584007913129639936 := by rw [← p4]; exact Nat.pow_le_pow_right (by omega) (by omega)
         have h4 : val [r0, r1, r2, r3, r5] < 115792089237316195423570985008687907853269984665640564039457584007913129639936 := Nat.lt_of_lt_of_le (Nat.lt_trans h1 h2) h3
         exact five_top h4
       have x0 := z2.out.at 0 (by simp)
       have x1 := z2.out.at 1 (by simp)
       have x2 := z2.out.at 2 (by simp)
       have x3 := z2.out.at 3 (by simp)
       simp only [List.getElem_cons_zero, List.getElem_cons_succ] at x0 x1 x2 x3
       obtain ⟨i0, i1, i2, i3, j0, j1, j2, j3⟩ := z3.out.four
       obtain ⟨k0, kk1, kk2, kk3, l0, l1, l2, l3⟩ := z4.out.four
       have hslH := slHead 128 5 (w'.heap.size + 1) 4 4 (by omega) (by kernel_rfl) (by kernel_rfl) (by kernel_rfl) (by omega) (by omega)
       have hat1 : ∀ w2, (Instr.arrayAt 107 (.slice (some ⟨w'.heap.size + 1, 0, none⟩) 4 5)).run Try.prog w2 = .ok (.pointer (some ⟨w'.heap.size + 1, 0, none⟩)) w2 := fun w2 => run_arrayAt w2 107 _ 4 _ 4 5 Try.underlying107 (by omega)
       go_wp2_with fail
       go_region_with (go_at_call 100; refine (p_shiftDown r0 r1 r2 r3 _ s HR4.out _ wr4 k1).mono ?_; rintro e' wd ⟨b0, b1, b2, b3, rfl, wb, hb, hE2⟩; rw [HF.out.2.1] at hb; have HB := hide hb; have y3 := (z3.out.drew.ext hE2); have y4 := (z4.out.drew.ext hE2); have y5 := (hE.trans (ext_drew _)).trans hE2; obtain ⟨i0, i1, i2, i3, j0, j1, j2, j3⟩ := y3.four; obtain ⟨k0, kk1, kk2, kk3, l0, l1, l2, l3⟩ := y4.four; clear hb hE2)
       all_goals go_wp2_with fail
       all_goals exact bodyPost_ret (v := .tuple #[.agg #[.int .u64 (q0' : Int), .int .u64 (q1' : Int), .int .u64 (q2' : Int), .int .u64 (q3' : Int)], .agg #[.int .u64 (b0 : Int), .int .u64 (b1 : Int), .int .u64 (b2 : Int), .int .u64 (b3 : Int)]]) (by simp [results, Try.results88, go_sem, i0, i1, i2, i3, k0, kk1, kk2, kk3]) rfl ⟨q0', q1', q2', q3', b0, b1, b2, b3, rfl, wQ, wb, HF.out.1, HB.out, ext_four (ext_four y5 (by omega) _ _ _ _) (by omega) _ _ _ _⟩
     · obtain ⟨i, rfl⟩ : ∃ i, j = i + 1 := ⟨j - 1, by omega⟩
       have hseg := long_seg HR.out (k := k + 1) (by omega) HK.out HDK.out wR
       have HST : Hid (∀ (os : List Nat) (d : Nat), os.length = k + 1 + 1 → val os = val ((R.drop i).take (k + 1 + 1)) % (m * 2 ^ s) → d = val ((R.drop i).take (k + 1 + 1)) / (m * 2 ^ s) → LongRel (n * 2 ^ s) (m * 2 ^ s) (R.take i ++ os ++ R.drop (i + (k + 1) + 1)) (Q.set i d) i) := fun os d h1 h2 h3 => long_step HR.out (by omega) (by omega) HK.out HDK.out HDP.out wR h1 h2 h3
       have hRl : Hid (R.length = 5) := HR.out.1
       have hQl : Hid (Q.length = 4) := HR.out.2.1
       have HCT : Hid (R.take i ++ (R.drop i).take (k + 1 + 1) ++ R.drop (i + (k + 1) + 1) = R) := by
         unfold Hid
         rw [List.append_assoc, show i + (k + 1) + 1 = i + (k + 1 + 1) by omega, ← List.drop_drop, List.take_append_drop, List.take_append_drop]
       have HPA : Hid (Arr wr (w'.heap.size + 1) 128 (R.take i ++ (R.drop i).take (k + 1 + 1) ++ R.drop (i + (k + 1) + 1))) := by rw [HCT.out]; exact z2
       have T1 : Hid ((R.take i).length = i) := by unfold Hid; rw [List.length_take, hRl.out]; omega
       have T2 : Hid (((R.drop i).take (k + 1 + 1)).length = k + 1 + 1) := by unfold Hid; rw [List.length_take, List.length_drop, hRl.out]; omega
       have T3 : Hid (([u0, u1, u2, u3].take (k + 1)).length = k + 1) := by unfold Hid; rw [List.length_take]; simp; omega
       have wp2 : W64 ((R.drop i).take (k + 1 + 1)) := w64_take (w64_drop wR i) _
       have wq2 : W64 ([u0, u1, u2, u3].take (k + 1)) := w64_take wu _
       have hrd : Reads wr w'.heap.size 0 ([u0, u1, u2, u3].take (k + 1)) := ⟨z1.out.lt, fun x hx => by
         have hx2 : x < [u0, u1, u2, u3].length := by rw [List.length_take] at hx; omega
         rw [Nat.zero_add, z1.out.at x hx2, List.getElem_take]⟩
       have HRD := hide hrd
       have HLT : Hid (val ((R.drop i).take (k + 1 + 1)) < val ([u0, u1, u2, u3].take (k + 1)) * 18446744073709551616) := by
         unfold Hid; rw [HUT.out, hseg.1]; exact hseg.2.1
       have hsl2 := slRun 128 5 (w'.heap.size + 1) i ((i : Int) + ((k : Int) + 1) + 1) (i + (k + 1) + 1) (by omega) (by kernel_rfl) (by kernel_rfl) (by kernel_rfl) (by omega) (by omega) (by omega)
       rw [show i + (k + 1) + 1 - i = k + 1 + 1 by omega] at hsl2
       have hiQ : i < Q.length := by rw [hQl.out]; omega
       have lq := z3.out.lt
       have hi4 : (i : Int) < 4 := by omega
       clear hseg hrd
       go_wp2_with (go_at_call 99; refine (p_takeDigit (w'.heap.size + 1) i k (5 - i) w'.heap.size 0 4 128 (R.take i) ((R.drop i).take (k + 1 + 1)) (R.drop (i + (k + 1) + 1)) ([u0, u1, u2, u3].take (k + 1)) _ HPA.out T1.out T2.out T3.out HRD.out gne (by omega) wp2 wq2 HLT.out).mono ?_; rintro e' wd ⟨dg, os, rfl, hdg, hdl, hol, wos, hov, hAd, hUd⟩; rw [HUT.out] at hdg hov; have HN2 := hide (HST.out os dg hol hov hdg); have x1 := (z1.out.upd hUd gne); have x3 := (z3.out.upd hUd (by omega)); have x4 := (z4.out.upd hUd (by omega)); have x5 := hUd.ext hE (by omega); have cq := x3.at i hiQ; have fq := x3.free i; have lx := x3.lt; have X1 := hide (x1.far (b := w.heap.size + 1 + 1) (by omega) i (.int .u64 (dg : Int))); have X2 := hide (hAd.far (b := w.heap.size + 1 + 1) (by omega) i (.int .u64 (dg : Int))); have X3 := hide (x3.set i dg); have X4 := hide (x4.far (b := w.heap.size + 1 + 1) (by omega) i (.int .u64 (dg : Int))); have X5 := hide (ext_set x5 (g := w.heap.size + 1 + 1) (by omega) i (.int .u64 (dg : Int))); have HOL := hide hol; clear hdg hov hAd hUd x1 x3 x4 x5 hol)
       exact ⟨⟨i, _, _, by go_num, by omega, HN2, w64_cat (w64_cat (w64_take wR i) wos) (w64_drop wR _), w64_set wQ _ _ hdl, X2, X1, X3, X4, X5.out⟩, by first | (simp [intOf]; done) | (simp [intOf]; omega)⟩
theorem p_divWords (a b c d e f g h n m : Nat) (hn : mag4 a b c d = n) (hm : mag4 e f g h = m) (w : World) (hw : W64 [a, b, c, d]) (hw' : W64 [e, f, g, h]) (hm0 : 0 < m) :
   Calls Try.prog 88 #[.agg #[.int .u64 (a : Int), .int .u64 (b : Int), .int .u64 (c : Int), .int .u64 (d : Int)], .agg #[.int .u64 (e : Int), .int .u64 (f : Int), .int .u64 (g : Int), .int .u64 (h : Int)]] w (TwoWords (n / m) (n % m) w) := by
 by_cases hlt : n < m
 · exact p_divWords_lt a b c d e f g h n m hn hm w hw hw' hlt
 · have hl1 : (limbs m).length ≤ 4 := limbs_len_le.2 (by rw [p4, ← hm]; exact mag_lt (w64_four hw').1 (w64_four hw').2.1 (w64_four hw').2.2.1 (w64_four hw').2.2.2)
   have hl0 : (limbs m).length ≠ 0 := fun h0 => by
     have := List.eq_nil_of_length_eq_zero h0
     rw [limbs_nil] at this; omega
   by_cases h1 : (limbs m).length = 1
   · exact p_divWords_one a b c d e f g h n m hn hm w hw hw' hlt h1
   · exact p_divWords_many a b c d e f g h n m ((limbs m).length - 1) hn hm w hw hw' hlt (by omega) (by omega) (by omega)
end
section
open Go Go.RowKit
def DivRet (x y : Int) (w : World) (e : Ending) (w' : World) : Prop := ∃ (s : Bool) (a b c d : Nat) (t : Bool) (e' f g h : Nat) (o : Bool), e = .returned (.tuple #[.agg #[.bool s, .int .u64 (a : Int), .int .u64 (b : Int), .int .u64 (c : Int), .int .u64 (d : Int)], .agg #[.bool t, .int .u64 (e' : Int), .int .u64 (f : Int), .int .u64 (g : Int), .int .u64 (h : Int)], .bool o]) ∧
 o = decide (y ≠ 0) ∧ IsC s a b c d (if y = 0 then 0 else x / y) ∧ IsC t e' f g h (if y = 0 then 0 else x % y) ∧ Ext w w'
theorem isC_zero : IsC false 0 0 0 0 0 := ⟨⟨by omega, by omega, by omega, by omega, by simp [mag4, val]⟩, by simp⟩
theorem divRet_no {x y : Int} {w w' : World} (hy : y = 0) (hE : Ext w w') :
   DivRet x y w (.returned (.tuple #[.agg #[.bool false, .int .u64 0, .int .u64 0, .int .u64 0, .int .u64 0], .agg #[.bool false, .int .u64 0, .int .u64 0, .int .u64 0, .int .u64 0], .bool false])) w' :=
 ⟨false, 0, 0, 0, 0, false, 0, 0, 0, 0, false, rfl, by simp [hy], by rw [if_pos hy]; exact isC_zero, by rw [if_pos hy]; exact isC_zero, hE⟩
theorem divRet_yes {x y : Int} {w w' : World} {s t : Bool} {a b c d e f g h : Nat} (hy : y ≠ 0) (h1 : IsC s a b c d (x / y)) (h2 : IsC t e f g h (x % y)) (hE : Ext w w') :
   DivRet x y w (.returned (.tuple #[.agg #[.bool s, .int .u64 (a : Int), .int .u64 (b : Int), .int .u64 (c : Int), .int .u64 (d : Int)], .agg #[.bool t, .int .u64 (e : Int), .int .u64 (f : Int), .int .u64 (g : Int), .int .u64 (h : Int)], .bool true])) w' :=
 ⟨s, a, b, c, d, t, e, f, g, h, true, rfl, by simp [hy], by rw [if_neg hy]; exact h1, by rw [if_neg hy]; exact h2, hE⟩
theorem div_signs (s t : Bool) (n m : Nat) (x y : Int) (hx : x = if s then -(n : Int) else n) (hy : y = if t then -(m : Int) else m) (hm : 0 < m) :
   ((s = false ∨ n % m = 0) → x / y = (if (s != t) then -((n / m : Nat) : Int) else ((n / m : Nat) : Int)) ∧ x % y = ((n % m : Nat) : Int)) ∧
   (s = true ∧ n % m ≠ 0 → x / y = (if (s != t) then -((n / m + 1 : Nat) : Int) else ((n / m + 1 : Nat) : Int)) ∧ x % y = ((m - n % m : Nat) : Int)) := by
 have e := Nat.div_add_mod n m
 have hr := Nat.mod_lt n hm
 have key : ∀ (q r : Int), x = y * q + r → 0 ≤ r → r < m → x / y = q ∧ x % y = r := by
   intro q r h1 h2 h3
   have hy0 : y ≠ 0 := by cases t <;> simp at hy <;> omega
   have hya : (y.natAbs : Int) = m := by cases t <;> simp at hy <;> omega
   have h4 := Int.emod_add_mul_ediv x y
   have h5 := Int.emod_nonneg x hy0
   have h6 := Int.emod_lt x hy0
   rw [hya] at h6
   have h7 : y * (x / y - q) = r - x % y := by rw [Int.mul_sub]; omega
   have h8 : (x / y - q) = 0 := by
     have h9 : (y * (x / y - q)).natAbs < m := by rw [h7]; omega
     rw [Int.natAbs_mul, show y.natAbs = m by omega] at h9
     have h10 : (x / y - q).natAbs = 0 := by
       rcases Nat.eq_zero_or_pos (x / y - q).natAbs with h | h
       · exact h
       · exfalso
         have : m * 1 ≤ m * (x / y - q).natAbs := Nat.mul_le_mul_left _ h
         omega
     omega
   rw [h8, Int.mul_zero] at h7
   exact ⟨by omega, by omega⟩
 generalize n / m = q at *
 generalize n % m = r at *
 have e' : (n : Int) = m * q + r := by rw [← e]; simp
 constructor
 · intro h
   refine key _ _ ?_ (by omega) (by omega)
   cases s <;> cases t <;> simp at hx hy h ⊢ <;> subst hx <;> subst hy <;> rw [e'] <;> (try subst h) <;> simp [Int.neg_mul, Int.mul_neg]
 · rintro ⟨h, h0⟩
   refine key _ _ ?_ (by omega) (by omega)
   have e2 : ((m - r : Nat) : Int) = (m : Int) - r := by omega
   rw [e2]
   subst h
   cases t <;> simp at hx hy ⊢ <;> subst hx <;> subst hy <;> rw [e'] <;> simp [Int.neg_mul, Int.mul_neg, Int.mul_add] <;> omega
theorem four_boxes (w : World) (s t : Bool) (a b c d e f g h : Nat) : ∃ W, ((((w.alloc (.cells #[.bool s, .int .u64 (a : Int), .int .u64 (b : Int), .int .u64 (c : Int), .int .u64 (d : Int)] 25)).alloc (.cells #[.bool t, .int .u64 (e : Int), .int .u64 (f : Int), .int .u64 (g : Int), .int .u64 (h : Int)] 25)).alloc (.cells #[.bool false, .int .u64 0, .int .u64 0, .int .u64 0, .int .u64 0] 25)).alloc (.cells #[.bool false, .int .u64 0, .int .u64 0, .int .u64 0, .int .u64 0] 25)) = W ∧
   Box W w.heap.size s a b c d ∧ Box W (w.heap.size + 1) t e f g h ∧ Box W (w.heap.size + 1 + 1) false 0 0 0 0 ∧ Box W (w.heap.size + 1 + 1 + 1) false 0 0 0 0 ∧ Ext w W := by
 have h := four_new w (.cells #[.bool s, .int .u64 (a : Int), .int .u64 (b : Int), .int .u64 (c : Int), .int .u64 (d : Int)] 25) (.cells #[.bool t, .int .u64 (e : Int), .int .u64 (f : Int), .int .u64 (g : Int), .int .u64 (h : Int)] 25) (.cells #[.bool false, .int .u64 0, .int .u64 0, .int .u64 0, .int .u64 0] 25) (.cells #[.bool false, .int .u64 0, .int .u64 0, .int .u64 0, .int .u64 0] 25)
 exact ⟨_, rfl, h.1, h.2.1, h.2.2.1, h.2.2.2, (((ext_alloc _ _).trans (ext_alloc _ _)).trans (ext_alloc _ _)).trans (ext_alloc _ _)⟩
theorem Box.far4 {w : World} {g b' : Nat} {s : Bool} {a b c d : Nat} (k : Box w g s a b c d) (h : g ≠ b') (u0 u1 u2 u3 : Value) : Box ((((w.setCell ⟨b', 0, none⟩ u0).setCell ⟨b', 1, none⟩ u1).setCell ⟨b', 2, none⟩ u2).setCell ⟨b', 3, none⟩ u3) g s a b c d := by
 unfold Box at *
 rw [heap_setCell_other _ _ _ _ (by simpa using h), heap_setCell_other _ _ _ _ (by simpa using h), heap_setCell_other _ _ _ _ (by simpa using h), heap_setCell_other _ _ _ _ (by first | (simp; done) | (simp [h]; done))]
 exact k
theorem cell_far5 (w : World) {g b' i : Nat} {u0 u1 u2 u3 u4 : Value} (h : g ≠ b') : (((((w.setCell ⟨b', 0, none⟩ u0).setCell ⟨b', 1, none⟩ u1).setCell ⟨b', 2, none⟩ u2).setCell ⟨b', 3, none⟩ u3).setCell ⟨b', 4, none⟩ u4).cell? ⟨g, i, none⟩ = w.cell? ⟨g, i, none⟩ := by
 rw [World.cell?_setCell_other _ _ _ _ (by first | (simp; done) | (simp [h]; done)), World.cell?_setCell_other _ _ _ _ (by first | (simp; done) | (simp [h]; done)), World.cell?_setCell_other _ _ _ _ (by first | (simp; done) | (simp [h]; done)), World.cell?_setCell_other _ _ _ _ (by first | (simp; done) | (simp [h]; done)), World.cell?_setCell_other _ _ _ _ (by first | (simp; done) | (simp [h]; done))]
theorem quot_fits (n m : Nat) (hm : 0 < m) (hr : n % m ≠ 0) (hn : n < 115792089237316195423570985008687907853269984665640564039457584007913129639936) : n / m + 1 < 115792089237316195423570985008687907853269984665640564039457584007913129639936 := by
 have h1 : m ≠ 1 := fun h => by subst h; rw [Nat.mod_one] at hr; exact hr rfl
 have e := Nat.div_add_mod n m
 have h2 : 2 * (n / m) ≤ m * (n / m) := Nat.mul_le_mul_right _ (by omega)
 omega
set_option maxHeartbeats 1000000 in
theorem p_divMod_no (s t : Bool) (a b c d e f g h : Nat) (x y : Int) (w : World) (hy : IsW t e f g h y) (hy0 : y = 0) :
   Calls Try.prog 76 #[.agg #[.bool s, .int .u64 (a : Int), .int .u64 (b : Int), .int .u64 (c : Int), .int .u64 (d : Int)], .agg #[.bool t, .int .u64 (e : Int), .int .u64 (f : Int), .int .u64 (g : Int), .int .u64 (h : Int)]] w (DivRet x y w) := by
 obtain ⟨W, hW, B0, B1, B2, B3, E0⟩ := four_boxes w s t a b c d e f g h
 have HW := hide hW
 have hqy := eql0 23 Try.underlying23 e f g h false (by rw [decide_eq_false_iff_not, hy.abs, hy0]; simp)
 have HY := hide hy0
 clear hW hy hy0
 obtain ⟨d0, d1, d2, d3, d4, g0, g1, g2, g3, g4⟩ := five_cells B1
 obtain ⟨i0, i1, i2, i3, i4, j0, j1, j2, j3, j4⟩ := five_cells B2
 obtain ⟨k0, k1, k2, k3, k4, l0, l1, l2, l3, l4⟩ := five_cells B3
 go_enter Try.func76, Try.ntmps76
 go_upto_region 1 with fail
 rw [HW.out]
 clear HW
 go_wp2_with fail
 exact bodyPost_ret (v := .tuple #[.agg #[.bool false, .int .u64 0, .int .u64 0, .int .u64 0, .int .u64 0], .agg #[.bool false, .int .u64 0, .int .u64 0, .int .u64 0, .int .u64 0], .bool false]) (by simp [results, Try.results76, go_sem, i0, i1, i2, i3, i4, k0, k1, k2, k3, k4]) rfl (divRet_no HY.out (ext_five (ext_five E0 (by omega) _ _ _ _ _) (by omega) _ _ _ _ _))
set_option maxRecDepth 100000 in
set_option maxHeartbeats 8000000 in
theorem p_divMod_pos (t : Bool) (a b c d e f g h : Nat) (x y : Int) (w : World) (hx : IsW false a b c d x) (hy : IsW t e f g h y) (hy0 : y ≠ 0) :
   Calls Try.prog 76 #[.agg #[.bool false, .int .u64 (a : Int), .int .u64 (b : Int), .int .u64 (c : Int), .int .u64 (d : Int)], .agg #[.bool t, .int .u64 (e : Int), .int .u64 (f : Int), .int .u64 (g : Int), .int .u64 (h : Int)]] w (DivRet x y w) := by
 obtain ⟨W, hW, B0, B1, B2, B3, E0⟩ := four_boxes w false t a b c d e f g h
 have HW := hide hW
 obtain ⟨n, hn⟩ : ∃ n, x.natAbs = n := ⟨_, rfl⟩
 obtain ⟨m, hm⟩ : ∃ m, y.natAbs = m := ⟨_, rfl⟩
 have MX : Hid (mag4 a b c d = n) := by rw [← hn]; exact hx.abs
 have MY : Hid (mag4 e f g h = m) := by rw [← hm]; exact hy.abs
 have hm0 : 0 < m := by omega
 have wx := hx.w64
 have wy := hy.w64
 obtain ⟨u, hu⟩ : ∃ u, (false != t) = u := ⟨_, rfl⟩
 have hnb := neqB false t u hu
 have HDS := hide (div_signs false t n m x y (by have := hx.2.2.2.2; rw [MX.out] at this; exact this) (by have := hy.2.2.2.2; rw [MY.out] at this; exact this) hm0)
 have hqy := eql0 23 Try.underlying23 e f g h true (by rw [decide_eq_true_iff, MY.out]; omega)
 have HUU := hide hu
 clear hW hn hm hx hy hu
 obtain ⟨c0, c1, c2, c3, c4, f0, f1, f2, f3, f4⟩ := five_cells B0
 obtain ⟨d0, d1, d2, d3, d4, g0, g1, g2, g3, g4⟩ := five_cells B1
 go_enter Try.func76, Try.ntmps76
 go_upto_region 1 with fail
 rw [HW.out]
 clear HW
 go_upto_if 29 with (go_at_call 88; refine (p_divWords a b c d e f g h n m MX.out MY.out _ wx wy hm0).mono ?_; rintro e' w' ⟨a7, b7, c7, d7, a8, b8, c8, d8, rfl, w7, w8, hq, hr, hE⟩; have HQ := hide hq; have HR := hide hr; have R0 := B0.ext hE; have R1 := B1.ext hE; have R2 := B2.ext hE; have R3 := B3.ext hE; obtain ⟨c0, c1, c2, c3, c4, f0, f1, f2, f3, f4⟩ := five_cells R0; obtain ⟨d0, d1, d2, d3, d4, g0, g1, g2, g3, g4⟩ := five_cells R1; have y0 := R0.lt; have y1 := R1.lt; have y2 := R2.lt; have y3 := R3.lt; have z0 : w.heap.size < w'.heap.size + 1 := (by omega); have z1 : w.heap.size + 1 < w'.heap.size + 1 := (by omega); have E1 := E0.trans hE; clear hE hq hr)
 have HZQ : Hid ((if u then -((mag4 a7 b7 c7 d7 : Nat) : Int) else ((mag4 a7 b7 c7 d7 : Nat) : Int)) = x / y) := by rw [HQ.out, ← HUU.out]; exact (HDS.out.1 (Or.inl (by first | rfl | trivial))).1.symm
 have HZR : Hid (((mag4 a8 b8 c8 d8 : Nat) : Int) = x % y) := by rw [HR.out]; exact (HDS.out.1 (Or.inl (by first | rfl | trivial))).2.symm
 have KK := two_blocks w' (.cells #[.int .u64 (a7 : Int), .int .u64 (b7 : Int), .int .u64 (c7 : Int), .int .u64 (d7 : Int)] 107) (.cells #[.int .u64 (a8 : Int), .int .u64 (b8 : Int), .int .u64 (c8 : Int), .int .u64 (d8 : Int)] 107)
 have KE := (ext_alloc w' (.cells #[.int .u64 (a7 : Int), .int .u64 (b7 : Int), .int .u64 (c7 : Int), .int .u64 (d7 : Int)] 107)).trans (ext_alloc _ (.cells #[.int .u64 (a8 : Int), .int .u64 (b8 : Int), .int .u64 (c8 : Int), .int .u64 (d8 : Int)] 107))
 go_cut [] (fun wx => Arr wx w'.heap.size 107 [a7, b7, c7, d7] ∧ Arr wx (w'.heap.size + 1) 107 [a8, b8, c8, d8] ∧ Box wx w.heap.size false a b c d ∧ Box wx (w.heap.size + 1) t e f g h ∧ Box wx (w.heap.size + 1 + 1) false 0 0 0 0 ∧ Box wx (w.heap.size + 1 + 1 + 1) false 0 0 0 0 ∧ Ext w wx)
 case first =>
     go_wp2_with fail
     all_goals go_meet
     all_goals exact ⟨KK.1, KK.2, R0.ext KE, R1.ext KE, R2.ext KE, R3.ext KE, E1.trans KE⟩
 case rest =>
     clear B0 B1 B2 B3 E0 R0 R1 R2 R3 E1
     obtain ⟨Q7, Q8, B0, B1, B2, B3, E0⟩ := hcut
     obtain ⟨c0, c1, c2, c3, c4, f0, f1, f2, f3, f4⟩ := five_cells B0
     obtain ⟨d0, d1, d2, d3, d4, g0, g1, g2, g3, g4⟩ := five_cells B1
     obtain ⟨m0, m1, m2, m3, _, _, _, _⟩ := Q7.four
     obtain ⟨o0, o1, o2, o3, _, _, _, _⟩ := Q8.four
     go_wp2_with fail
     generalize w'.heap.size = gA at *
     have n02 : w.heap.size ≠ w.heap.size + 1 + 1 := by omega
     have n03 : w.heap.size ≠ w.heap.size + 1 + 1 + 1 := by omega
     have n12 : w.heap.size + 1 ≠ w.heap.size + 1 + 1 := by omega
     have n13 : w.heap.size + 1 ≠ w.heap.size + 1 + 1 + 1 := by omega
     have nA2 : gA ≠ w.heap.size + 1 + 1 := by omega
     have nA3 : gA ≠ w.heap.size + 1 + 1 + 1 := by omega
     have nB2 : gA + 1 ≠ w.heap.size + 1 + 1 := by omega
     have nB3 : gA + 1 ≠ w.heap.size + 1 + 1 + 1 := by omega
     go_region_held3 (fun w' => w'.cell? ⟨w.heap.size, 0, none⟩ = some (.bool false) ∧ w'.cell? ⟨w.heap.size + 1, 0, none⟩ = some (.bool t) ∧ w'.cell? ⟨gA, 0, none⟩ = some (.int .u64 (a7 : Int)) ∧ w'.cell? ⟨gA, 1, none⟩ = some (.int .u64 (b7 : Int)) ∧ w'.cell? ⟨gA, 2, none⟩ = some (.int .u64 (c7 : Int)) ∧ w'.cell? ⟨gA, 3, none⟩ = some (.int .u64 (d7 : Int)) ∧ w'.cell? ⟨gA + 1, 0, none⟩ = some (.int .u64 (a8 : Int)) ∧ w'.cell? ⟨gA + 1, 1, none⟩ = some (.int .u64 (b8 : Int)) ∧ w'.cell? ⟨gA + 1, 2, none⟩ = some (.int .u64 (c8 : Int)) ∧ w'.cell? ⟨gA + 1, 3, none⟩ = some (.int .u64 (d8 : Int))) (first | (with_reducible exact ⟨c0, d0, m0, m1, m2, m3, o0, o1, o2, o3⟩) | (with_reducible exact ⟨(cell_far5 _ n02).trans c0, (cell_far5 _ n12).trans d0, (cell_far5 _ nA2).trans m0, (cell_far5 _ nA2).trans m1, (cell_far5 _ nA2).trans m2, (cell_far5 _ nA2).trans m3, (cell_far5 _ nB2).trans o0, (cell_far5 _ nB2).trans o1, (cell_far5 _ nB2).trans o2, (cell_far5 _ nB2).trans o3⟩) | (with_reducible exact ⟨(cell_far5 _ n03).trans c0, (cell_far5 _ n13).trans d0, (cell_far5 _ nA3).trans m0, (cell_far5 _ nA3).trans m1, (cell_far5 _ nA3).trans m2, (cell_far5 _ nA3).trans m3, (cell_far5 _ nB3).trans o0, (cell_far5 _ nB3).trans o1, (cell_far5 _ nB3).trans o2, (cell_far5 _ nB3).trans o3⟩) | (with_reducible exact ⟨(cell_far5 _ n03).trans ((cell_far5 _ n02).trans c0), (cell_far5 _ n13).trans ((cell_far5 _ n12).trans d0), (cell_far5 _ nA3).trans ((cell_far5 _ nA2).trans m0), (cell_far5 _ nA3).trans ((cell_far5 _ nA2).trans m1), (cell_far5 _ nA3).trans ((cell_far5 _ nA2).trans m2), (cell_far5 _ nA3).trans ((cell_far5 _ nA2).trans m3), (cell_far5 _ nB3).trans ((cell_far5 _ nB2).trans o0), (cell_far5 _ nB3).trans ((cell_far5 _ nB2).trans o1), (cell_far5 _ nB3).trans ((cell_far5 _ nB2).trans o2), (cell_far5 _ nB3).trans ((cell_far5 _ nB2).trans o3)⟩) | (with_reducible exact ⟨(cell_far5 _ n02).trans ((cell_far5 _ n03).trans c0), (cell_far5 _ n12).trans ((cell_far5 _ n13).trans d0), (cell_far5 _ nA2).trans ((cell_far5 _ nA3).trans m0), (cell_far5 _ nA2).trans ((cell_far5 _ nA3).trans m1), (cell_far5 _ nA2).trans ((cell_far5 _ nA3).trans m2), (cell_far5 _ nA2).trans ((cell_far5 _ nA3).trans m3), (cell_far5 _ nB2).trans ((cell_far5 _ nB3).trans o0), (cell_far5 _ nB2).trans ((cell_far5 _ nB3).trans o1), (cell_far5 _ nB2).trans ((cell_far5 _ nB3).trans o2), (cell_far5 _ nB2).trans ((cell_far5 _ nB3).trans o3)⟩) | go_keep) (first
       | (go_at_call_of 78 (Value.bool u); refine (p_signed u a7 b7 c7 d7 _ (w64_four w7).1 (w64_four w7).2.1 (w64_four w7).2.2.1 (w64_four w7).2.2.2).mono ?_; rintro e' w7 ⟨s', a', b', c', d', rfl, hC, hE⟩; rw [HZQ.out] at hC; have SA0 : Box w7 w.heap.size false a b c d := (by first | exact SB0.ext hE | exact B0.drew.ext hE); have SA1 : Box w7 (w.heap.size + 1) t e f g h := (by first | exact SB1.ext hE | exact B1.drew.ext hE); have SA2 : Box w7 (w.heap.size + 1 + 1) false 0 0 0 0 := (by first | exact SB2.ext hE | exact B2.drew.ext hE); have SA3 : Box w7 (w.heap.size + 1 + 1 + 1) false 0 0 0 0 := (by first | exact SB3.ext hE | exact B3.drew.ext hE); have SA7 : Arr w7 gA 107 [a7, b7, c7, d7] := (by first | exact SB7.ext hE | exact Q7.drew.ext hE); have SA8 : Arr w7 (gA + 1) 107 [a8, b8, c8, d8] := (by first | exact SB8.ext hE | exact Q8.drew.ext hE); have SAE : Ext w w7 := (by first | exact SBE.trans hE | exact (E0.trans (ext_drew _)).trans hE); have F1 := SAE; obtain ⟨c0, c1, c2, c3, c4, f0, f1, f2, f3, f4⟩ := five_cells SA0; obtain ⟨d0, d1, d2, d3, d4, g0, g1, g2, g3, g4⟩ := five_cells SA1; obtain ⟨i0, i1, i2, i3, i4, j0, j1, j2, j3, j4⟩ := five_cells SA2; obtain ⟨k0, k1, k2, k3, k4, l0, l1, l2, l3, l4⟩ := five_cells SA3; obtain ⟨m0, m1, m2, m3, _, _, _, _⟩ := SA7.four; obtain ⟨o0, o1, o2, o3, _, _, _, _⟩ := SA8.four; clear hE)
       | (go_at_call_of 78 (Value.bool false); refine (p_signed false a8 b8 c8 d8 _ (w64_four w8).1 (w64_four w8).2.1 (w64_four w8).2.2.1 (w64_four w8).2.2.2).mono ?_; rintro e' w8 ⟨s2, a2, b2, c2', d2', rfl, hC2, hE⟩; simp only [Bool.false_eq_true, if_false] at hC2; rw [HZR.out] at hC2; have SB0 : Box w8 w.heap.size false a b c d := (by first | exact SA0.ext hE | exact B0.drew.ext hE); have SB1 : Box w8 (w.heap.size + 1) t e f g h := (by first | exact SA1.ext hE | exact B1.drew.ext hE); have SB2 : Box w8 (w.heap.size + 1 + 1) false 0 0 0 0 := (by first | exact SA2.ext hE | exact B2.drew.ext hE); have SB3 : Box w8 (w.heap.size + 1 + 1 + 1) false 0 0 0 0 := (by first | exact SA3.ext hE | exact B3.drew.ext hE); have SB7 : Arr w8 gA 107 [a7, b7, c7, d7] := (by first | exact SA7.ext hE | exact Q7.drew.ext hE); have SB8 : Arr w8 (gA + 1) 107 [a8, b8, c8, d8] := (by first | exact SA8.ext hE | exact Q8.drew.ext hE); have SBE : Ext w w8 := (by first | exact SAE.trans hE | exact (E0.trans (ext_drew _)).trans hE); have F1 := SBE; obtain ⟨c0, c1, c2, c3, c4, f0, f1, f2, f3, f4⟩ := five_cells SB0; obtain ⟨d0, d1, d2, d3, d4, g0, g1, g2, g3, g4⟩ := five_cells SB1; obtain ⟨i0, i1, i2, i3, i4, j0, j1, j2, j3, j4⟩ := five_cells SB2; obtain ⟨k0, k1, k2, k3, k4, l0, l1, l2, l3, l4⟩ := five_cells SB3; obtain ⟨m0, m1, m2, m3, _, _, _, _⟩ := SB7.four; obtain ⟨o0, o1, o2, o3, _, _, _, _⟩ := SB8.four; clear hE))
     all_goals go_wp2_with fail
     all_goals exact bodyPost_ret (v := .tuple #[.agg #[.bool s', .int .u64 (a' : Int), .int .u64 (b' : Int), .int .u64 (c' : Int), .int .u64 (d' : Int)], .agg #[.bool s2, .int .u64 (a2 : Int), .int .u64 (b2 : Int), .int .u64 (c2' : Int), .int .u64 (d2' : Int)], .bool true]) (by simp [results, Try.results76, go_sem, i0, i1, i2, i3, i4, k0, k1, k2, k3, k4]) rfl (divRet_yes hy0 hC hC2 (ext_five (ext_five F1 (by omega) _ _ _ _ _) (by omega) _ _ _ _ _))
set_option maxRecDepth 100000 in
set_option maxHeartbeats 8000000 in
theorem p_divMod_even (t : Bool) (a b c d e f g h : Nat) (x y : Int) (w : World) (hx : IsW true a b c d x) (hy : IsW t e f g h y) (hy0 : y ≠ 0) (hz : x.natAbs % y.natAbs = 0) :
   Calls Try.prog 76 #[.agg #[.bool true, .int .u64 (a : Int), .int .u64 (b : Int), .int .u64 (c : Int), .int .u64 (d : Int)], .agg #[.bool t, .int .u64 (e : Int), .int .u64 (f : Int), .int .u64 (g : Int), .int .u64 (h : Int)]] w (DivRet x y w) := by
 obtain ⟨W, hW, B0, B1, B2, B3, E0⟩ := four_boxes w true t a b c d e f g h
 have HW := hide hW
 have hz0 := hz
 clear hz
 obtain ⟨n, hn⟩ : ∃ n, x.natAbs = n := ⟨_, rfl⟩
 obtain ⟨m, hm⟩ : ∃ m, y.natAbs = m := ⟨_, rfl⟩
 have MX : Hid (mag4 a b c d = n) := by rw [← hn]; exact hx.abs
 have MY : Hid (mag4 e f g h = m) := by rw [← hm]; exact hy.abs
 have hm0 : 0 < m := by omega
 have wx := hx.w64
 have wy := hy.w64
 obtain ⟨u, hu⟩ : ∃ u, (true != t) = u := ⟨_, rfl⟩
 have hnb := neqB true t u hu
 have HDS := hide (div_signs true t n m x y (by have := hx.2.2.2.2; rw [MX.out] at this; exact this) (by have := hy.2.2.2.2; rw [MY.out] at this; exact this) hm0)
 have hqy := eql0 23 Try.underlying23 e f g h true (by rw [decide_eq_true_iff, MY.out]; omega)
 have HUU := hide hu
 rw [hn, hm] at hz0
 have HNZ := hide hz0
 clear hz0 hW hn hm hx hy hu
 obtain ⟨c0, c1, c2, c3, c4, f0, f1, f2, f3, f4⟩ := five_cells B0
 obtain ⟨d0, d1, d2, d3, d4, g0, g1, g2, g3, g4⟩ := five_cells B1
 go_enter Try.func76, Try.ntmps76
 go_upto_region 1 with fail
 rw [HW.out]
 clear HW
 go_upto_if 29 with (go_at_call 88; refine (p_divWords a b c d e f g h n m MX.out MY.out _ wx wy hm0).mono ?_; rintro e' w' ⟨a7, b7, c7, d7, a8, b8, c8, d8, rfl, w7, w8, hq, hr, hE⟩; have HQ := hide hq; have HR := hide hr; have R0 := B0.ext hE; have R1 := B1.ext hE; have R2 := B2.ext hE; have R3 := B3.ext hE; obtain ⟨c0, c1, c2, c3, c4, f0, f1, f2, f3, f4⟩ := five_cells R0; obtain ⟨d0, d1, d2, d3, d4, g0, g1, g2, g3, g4⟩ := five_cells R1; have y0 := R0.lt; have y1 := R1.lt; have y2 := R2.lt; have y3 := R3.lt; have z0 : w.heap.size < w'.heap.size + 1 := (by omega); have z1 : w.heap.size + 1 < w'.heap.size + 1 := (by omega); have E1 := E0.trans hE; clear hE hq hr; have hqr := neq0 107 Try.underlying107 a8 b8 c8 d8 false (by rw [decide_eq_false_iff_not, HR.out, HNZ.out]; simp))
 have HZQ : Hid ((if u then -((mag4 a7 b7 c7 d7 : Nat) : Int) else ((mag4 a7 b7 c7 d7 : Nat) : Int)) = x / y) := by rw [HQ.out, ← HUU.out]; exact (HDS.out.1 (Or.inr HNZ.out)).1.symm
 have HZR : Hid (((mag4 a8 b8 c8 d8 : Nat) : Int) = x % y) := by rw [HR.out]; exact (HDS.out.1 (Or.inr HNZ.out)).2.symm
 have KK := two_blocks w' (.cells #[.int .u64 (a7 : Int), .int .u64 (b7 : Int), .int .u64 (c7 : Int), .int .u64 (d7 : Int)] 107) (.cells #[.int .u64 (a8 : Int), .int .u64 (b8 : Int), .int .u64 (c8 : Int), .int .u64 (d8 : Int)] 107)
 have KE := (ext_alloc w' (.cells #[.int .u64 (a7 : Int), .int .u64 (b7 : Int), .int .u64 (c7 : Int), .int .u64 (d7 : Int)] 107)).trans (ext_alloc _ (.cells #[.int .u64 (a8 : Int), .int .u64 (b8 : Int), .int .u64 (c8 : Int), .int .u64 (d8 : Int)] 107))
 go_cut [] (fun wx => Arr wx w'.heap.size 107 [a7, b7, c7, d7] ∧ Arr wx (w'.heap.size + 1) 107 [a8, b8, c8, d8] ∧ Box wx w.heap.size true a b c d ∧ Box wx (w.heap.size + 1) t e f g h ∧ Box wx (w.heap.size + 1 + 1) false 0 0 0 0 ∧ Box wx (w.heap.size + 1 + 1 + 1) false 0 0 0 0 ∧ Ext w wx)
 case first =>
     go_wp2_with fail
     all_goals go_meet
     all_goals exact ⟨KK.1, KK.2, R0.ext KE, R1.ext KE, R2.ext KE, R3.ext KE, E1.trans KE⟩
 case rest =>
     clear B0 B1 B2 B3 E0 R0 R1 R2 R3 E1
     obtain ⟨Q7, Q8, B0, B1, B2, B3, E0⟩ := hcut
     obtain ⟨c0, c1, c2, c3, c4, f0, f1, f2, f3, f4⟩ := five_cells B0
     obtain ⟨d0, d1, d2, d3, d4, g0, g1, g2, g3, g4⟩ := five_cells B1
     obtain ⟨m0, m1, m2, m3, _, _, _, _⟩ := Q7.four
     obtain ⟨o0, o1, o2, o3, _, _, _, _⟩ := Q8.four
     go_wp2_with fail
     generalize w'.heap.size = gA at *
     have n02 : w.heap.size ≠ w.heap.size + 1 + 1 := by omega
     have n03 : w.heap.size ≠ w.heap.size + 1 + 1 + 1 := by omega
     have n12 : w.heap.size + 1 ≠ w.heap.size + 1 + 1 := by omega
     have n13 : w.heap.size + 1 ≠ w.heap.size + 1 + 1 + 1 := by omega
     have nA2 : gA ≠ w.heap.size + 1 + 1 := by omega
     have nA3 : gA ≠ w.heap.size + 1 + 1 + 1 := by omega
     have nB2 : gA + 1 ≠ w.heap.size + 1 + 1 := by omega
     have nB3 : gA + 1 ≠ w.heap.size + 1 + 1 + 1 := by omega
     go_region_held3 (fun w' => w'.cell? ⟨w.heap.size, 0, none⟩ = some (.bool true) ∧ w'.cell? ⟨w.heap.size + 1, 0, none⟩ = some (.bool t) ∧ w'.cell? ⟨gA, 0, none⟩ = some (.int .u64 (a7 : Int)) ∧ w'.cell? ⟨gA, 1, none⟩ = some (.int .u64 (b7 : Int)) ∧ w'.cell? ⟨gA, 2, none⟩ = some (.int .u64 (c7 : Int)) ∧ w'.cell? ⟨gA, 3, none⟩ = some (.int .u64 (d7 : Int)) ∧ w'.cell? ⟨gA + 1, 0, none⟩ = some (.int .u64 (a8 : Int)) ∧ w'.cell? ⟨gA + 1, 1, none⟩ = some (.int .u64 (b8 : Int)) ∧ w'.cell? ⟨gA + 1, 2, none⟩ = some (.int .u64 (c8 : Int)) ∧ w'.cell? ⟨gA + 1, 3, none⟩ = some (.int .u64 (d8 : Int))) (first | (with_reducible exact ⟨c0, d0, m0, m1, m2, m3, o0, o1, o2, o3⟩) | (with_reducible exact ⟨(cell_far5 _ n02).trans c0, (cell_far5 _ n12).trans d0, (cell_far5 _ nA2).trans m0, (cell_far5 _ nA2).trans m1, (cell_far5 _ nA2).trans m2, (cell_far5 _ nA2).trans m3, (cell_far5 _ nB2).trans o0, (cell_far5 _ nB2).trans o1, (cell_far5 _ nB2).trans o2, (cell_far5 _ nB2).trans o3⟩) | (with_reducible exact ⟨(cell_far5 _ n03).trans c0, (cell_far5 _ n13).trans d0, (cell_far5 _ nA3).trans m0, (cell_far5 _ nA3).trans m1, (cell_far5 _ nA3).trans m2, (cell_far5 _ nA3).trans m3, (cell_far5 _ nB3).trans o0, (cell_far5 _ nB3).trans o1, (cell_far5 _ nB3).trans o2, (cell_far5 _ nB3).trans o3⟩) | (with_reducible exact ⟨(cell_far5 _ n03).trans ((cell_far5 _ n02).trans c0), (cell_far5 _ n13).trans ((cell_far5 _ n12).trans d0), (cell_far5 _ nA3).trans ((cell_far5 _ nA2).trans m0), (cell_far5 _ nA3).trans ((cell_far5 _ nA2).trans m1), (cell_far5 _ nA3).trans ((cell_far5 _ nA2).trans m2), (cell_far5 _ nA3).trans ((cell_far5 _ nA2).trans m3), (cell_far5 _ nB3).trans ((cell_far5 _ nB2).trans o0), (cell_far5 _ nB3).trans ((cell_far5 _ nB2).trans o1), (cell_far5 _ nB3).trans ((cell_far5 _ nB2).trans o2), (cell_far5 _ nB3).trans ((cell_far5 _ nB2).trans o3)⟩) | (with_reducible exact ⟨(cell_far5 _ n02).trans ((cell_far5 _ n03).trans c0), (cell_far5 _ n12).trans ((cell_far5 _ n13).trans d0), (cell_far5 _ nA2).trans ((cell_far5 _ nA3).trans m0), (cell_far5 _ nA2).trans ((cell_far5 _ nA3).trans m1), (cell_far5 _ nA2).trans ((cell_far5 _ nA3).trans m2), (cell_far5 _ nA2).trans ((cell_far5 _ nA3).trans m3), (cell_far5 _ nB2).trans ((cell_far5 _ nB3).trans o0), (cell_far5 _ nB2).trans ((cell_far5 _ nB3).trans o1), (cell_far5 _ nB2).trans ((cell_far5 _ nB3).trans o2), (cell_far5 _ nB2).trans ((cell_far5 _ nB3).trans o3)⟩) | go_keep) (first
       | (go_at_call_of 78 (Value.bool u); refine (p_signed u a7 b7 c7 d7 _ (w64_four w7).1 (w64_four w7).2.1 (w64_four w7).2.2.1 (w64_four w7).2.2.2).mono ?_; rintro e' w7 ⟨s', a', b', c', d', rfl, hC, hE⟩; rw [HZQ.out] at hC; have SA0 : Box w7 w.heap.size true a b c d := (by first | exact SB0.ext hE | exact B0.drew.ext hE); have SA1 : Box w7 (w.heap.size + 1) t e f g h := (by first | exact SB1.ext hE | exact B1.drew.ext hE); have SA2 : Box w7 (w.heap.size + 1 + 1) false 0 0 0 0 := (by first | exact SB2.ext hE | exact B2.drew.ext hE); have SA3 : Box w7 (w.heap.size + 1 + 1 + 1) false 0 0 0 0 := (by first | exact SB3.ext hE | exact B3.drew.ext hE); have SA7 : Arr w7 gA 107 [a7, b7, c7, d7] := (by first | exact SB7.ext hE | exact Q7.drew.ext hE); have SA8 : Arr w7 (gA + 1) 107 [a8, b8, c8, d8] := (by first | exact SB8.ext hE | exact Q8.drew.ext hE); have SAE : Ext w w7 := (by first | exact SBE.trans hE | exact (E0.trans (ext_drew _)).trans hE); have F1 := SAE; obtain ⟨c0, c1, c2, c3, c4, f0, f1, f2, f3, f4⟩ := five_cells SA0; obtain ⟨d0, d1, d2, d3, d4, g0, g1, g2, g3, g4⟩ := five_cells SA1; obtain ⟨i0, i1, i2, i3, i4, j0, j1, j2, j3, j4⟩ := five_cells SA2; obtain ⟨k0, k1, k2, k3, k4, l0, l1, l2, l3, l4⟩ := five_cells SA3; obtain ⟨m0, m1, m2, m3, _, _, _, _⟩ := SA7.four; obtain ⟨o0, o1, o2, o3, _, _, _, _⟩ := SA8.four; clear hE)
       | (go_at_call_of 78 (Value.bool false); refine (p_signed false a8 b8 c8 d8 _ (w64_four w8).1 (w64_four w8).2.1 (w64_four w8).2.2.1 (w64_four w8).2.2.2).mono ?_; rintro e' w8 ⟨s2, a2, b2, c2', d2', rfl, hC2, hE⟩; simp only [Bool.false_eq_true, if_false] at hC2; rw [HZR.out] at hC2; have SB0 : Box w8 w.heap.size true a b c d := (by first | exact SA0.ext hE | exact B0.drew.ext hE); have SB1 : Box w8 (w.heap.size + 1) t e f g h := (by first | exact SA1.ext hE | exact B1.drew.ext hE); have SB2 : Box w8 (w.heap.size + 1 + 1) false 0 0 0 0 := (by first | exact SA2.ext hE | exact B2.drew.ext hE); have SB3 : Box w8 (w.heap.size + 1 + 1 + 1) false 0 0 0 0 := (by first | exact SA3.ext hE | exact B3.drew.ext hE); have SB7 : Arr w8 gA 107 [a7, b7, c7, d7] := (by first | exact SA7.ext hE | exact Q7.drew.ext hE); have SB8 : Arr w8 (gA + 1) 107 [a8, b8, c8, d8] := (by first | exact SA8.ext hE | exact Q8.drew.ext hE); have SBE : Ext w w8 := (by first | exact SAE.trans hE | exact (E0.trans (ext_drew _)).trans hE); have F1 := SBE; obtain ⟨c0, c1, c2, c3, c4, f0, f1, f2, f3, f4⟩ := five_cells SB0; obtain ⟨d0, d1, d2, d3, d4, g0, g1, g2, g3, g4⟩ := five_cells SB1; obtain ⟨i0, i1, i2, i3, i4, j0, j1, j2, j3, j4⟩ := five_cells SB2; obtain ⟨k0, k1, k2, k3, k4, l0, l1, l2, l3, l4⟩ := five_cells SB3; obtain ⟨m0, m1, m2, m3, _, _, _, _⟩ := SB7.four; obtain ⟨o0, o1, o2, o3, _, _, _, _⟩ := SB8.four; clear hE))
     all_goals go_wp2_with fail
     all_goals exact bodyPost_ret (v := .tuple #[.agg #[.bool s', .int .u64 (a' : Int), .int .u64 (b' : Int), .int .u64 (c' : Int), .int .u64 (d' : Int)], .agg #[.bool s2, .int .u64 (a2 : Int), .int .u64 (b2 : Int), .int .u64 (c2' : Int), .int .u64 (d2' : Int)], .bool true]) (by simp [results, Try.results76, go_sem, i0, i1, i2, i3, i4, k0, k1, k2, k3, k4]) rfl (divRet_yes hy0 hC hC2 (ext_five (ext_five F1 (by omega) _ _ _ _ _) (by omega) _ _ _ _ _))
set_option maxRecDepth 100000 in
set_option maxHeartbeats 8000000 in
theorem p_divMod_odd (t : Bool) (a b c d e f g h : Nat) (x y : Int) (w : World) (hx : IsW true a b c d x) (hy : IsW t e f g h y) (hy0 : y ≠ 0) (hz : x.natAbs % y.natAbs ≠ 0) :
   Calls Try.prog 76 #[.agg #[.bool true, .int .u64 (a : Int), .int .u64 (b : Int), .int .u64 (c : Int), .int .u64 (d : Int)], .agg #[.bool t, .int .u64 (e : Int), .int .u64 (f : Int), .int .u64 (g : Int), .int .u64 (h : Int)]] w (DivRet x y w) := by
 obtain ⟨W, hW, B0, B1, B2, B3, E0⟩ := four_boxes w true t a b c d e f g h
 have HW := hide hW
 have hz0 := hz
 clear hz
 obtain ⟨n, hn⟩ : ∃ n, x.natAbs = n := ⟨_, rfl⟩
 obtain ⟨m, hm⟩ : ∃ m, y.natAbs = m := ⟨_, rfl⟩
 have MX : Hid (mag4 a b c d = n) := by rw [← hn]; exact hx.abs
 have MY : Hid (mag4 e f g h = m) := by rw [← hm]; exact hy.abs
 have hm0 : 0 < m := by omega
 have wx := hx.w64
 have wy := hy.w64
 obtain ⟨u, hu⟩ : ∃ u, (true != t) = u := ⟨_, rfl⟩
 have hnb := neqB true t u hu
 have HDS := hide (div_signs true t n m x y (by have := hx.2.2.2.2; rw [MX.out] at this; exact this) (by have := hy.2.2.2.2; rw [MY.out] at this; exact this) hm0)
 have hqy := eql0 23 Try.underlying23 e f g h true (by rw [decide_eq_true_iff, MY.out]; omega)
 have HUU := hide hu
 rw [hn, hm] at hz0
 have HNZ := hide hz0
 clear hz0 hW hn hm hx hy hu
 obtain ⟨c0, c1, c2, c3, c4, f0, f1, f2, f3, f4⟩ := five_cells B0
 obtain ⟨d0, d1, d2, d3, d4, g0, g1, g2, g3, g4⟩ := five_cells B1
 go_enter Try.func76, Try.ntmps76
 go_upto_region 1 with fail
 rw [HW.out]
 clear HW
 go_upto_if 29 with (go_at_call 88; refine (p_divWords a b c d e f g h n m MX.out MY.out _ wx wy hm0).mono ?_; rintro e' w' ⟨a7, b7, c7, d7, a8, b8, c8, d8, rfl, w7, w8, hq, hr, hE⟩; have HQ := hide hq; have HR := hide hr; have R0 := B0.ext hE; have R1 := B1.ext hE; have R2 := B2.ext hE; have R3 := B3.ext hE; obtain ⟨c0, c1, c2, c3, c4, f0, f1, f2, f3, f4⟩ := five_cells R0; obtain ⟨d0, d1, d2, d3, d4, g0, g1, g2, g3, g4⟩ := five_cells R1; have y0 := R0.lt; have y1 := R1.lt; have y2 := R2.lt; have y3 := R3.lt; have z0 : w.heap.size < w'.heap.size + 1 := (by omega); have z1 : w.heap.size + 1 < w'.heap.size + 1 := (by omega); have E1 := E0.trans hE; clear hE hq hr; have hqr := neq0 107 Try.underlying107 a8 b8 c8 d8 true (by rw [decide_eq_true_iff, HR.out]; exact HNZ.out))
 have HRL : Hid (n % m < m) := Nat.mod_lt n hm0
 have HFQ : Hid ((n / m + 1) % 115792089237316195423570985008687907853269984665640564039457584007913129639936 = n / m + 1) := by
   refine Nat.mod_eq_of_lt ?_
   have h1 := mag_lt (w64_four wx).1 (w64_four wx).2.1 (w64_four wx).2.2.1 (w64_four wx).2.2.2
   rw [MX.out] at h1
   exact quot_fits n m hm0 HNZ.out h1
 have HOne : Hid (mag4 1 0 0 0 = 1) := by simp [Hid, mag4, val]
 have wone : W64 [1, 0, 0, 0] := by intro x hx; simp at hx; omega
 have hadd1 := fun W => p_addWords a7 b7 c7 d7 1 0 0 0 (n / m) 1 HQ.out HOne.out W w7 wone
 have HADD := hide hadd1
 clear hadd1
 go_cut [] (fun wx => ∃ a9 b9 c9 d9 a5 b5 c5 d5 : Nat, W64 [a9, b9, c9, d9] ∧ W64 [a5, b5, c5, d5] ∧ Hid (mag4 a9 b9 c9 d9 = n / m + 1) ∧ Hid (mag4 a5 b5 c5 d5 = m - n % m) ∧ Arr wx w'.heap.size 107 [a9, b9, c9, d9] ∧ Arr wx (w'.heap.size + 1) 107 [a5, b5, c5, d5] ∧ Box wx w.heap.size true a b c d ∧ Box wx (w.heap.size + 1) t e f g h ∧ Box wx (w.heap.size + 1 + 1) false 0 0 0 0 ∧ Box wx (w.heap.size + 1 + 1 + 1) false 0 0 0 0 ∧ Ext w wx)
 case first =>
     have KK := two_blocks w' (.cells #[.int .u64 (a7 : Int), .int .u64 (b7 : Int), .int .u64 (c7 : Int), .int .u64 (d7 : Int)] 107) (.cells #[.int .u64 (a8 : Int), .int .u64 (b8 : Int), .int .u64 (c8 : Int), .int .u64 (d8 : Int)] 107)
     have KE := (ext_alloc w' (.cells #[.int .u64 (a7 : Int), .int .u64 (b7 : Int), .int .u64 (c7 : Int), .int .u64 (d7 : Int)] 107)).trans (ext_alloc _ (.cells #[.int .u64 (a8 : Int), .int .u64 (b8 : Int), .int .u64 (c8 : Int), .int .u64 (d8 : Int)] 107))
     have P7 : Arr ((w'.alloc (.cells #[.int .u64 (a7 : Int), .int .u64 (b7 : Int), .int .u64 (c7 : Int), .int .u64 (d7 : Int)] 107)).alloc (.cells #[.int .u64 (a8 : Int), .int .u64 (b8 : Int), .int .u64 (c8 : Int), .int .u64 (d8 : Int)] 107)) w'.heap.size 107 [a7, b7, c7, d7] := KK.1
     have P8 : Arr ((w'.alloc (.cells #[.int .u64 (a7 : Int), .int .u64 (b7 : Int), .int .u64 (c7 : Int), .int .u64 (d7 : Int)] 107)).alloc (.cells #[.int .u64 (a8 : Int), .int .u64 (b8 : Int), .int .u64 (c8 : Int), .int .u64 (d8 : Int)] 107)) (w'.heap.size + 1) 107 [a8, b8, c8, d8] := KK.2
     have P0 := R0.ext KE
     have P1 := R1.ext KE
     have P2 := R2.ext KE
     have P3 := R3.ext KE
     have PE := E1.trans KE
     clear KK
     go_wp2_with (first
       | (go_at_call 86; refine (HADD.out _).mono ?_; rintro e' w5 ⟨a9, b9, c9, d9, rfl, w9, hq9, hE⟩; rw [HFQ.out] at hq9; have HQ9 := hide hq9; have S7 := P7.ext hE; have S8 := P8.ext hE; have S0 := P0.ext hE; have S1 := P1.ext hE; have S2 := P2.ext hE; have S3 := P3.ext hE; have SE := PE.trans hE; obtain ⟨m0, m1, m2, m3, n0, n1, n2, n3⟩ := S7.four; obtain ⟨o0, o1, o2, o3, p0, p1, p2, p3⟩ := S8.four; obtain ⟨d0, d1, d2, d3, d4, g0, g1, g2, g3, g4⟩ := five_cells S1; clear hE hq9)
       | (go_at_call 87; refine (p_subWords e f g h a8 b8 c8 d8 m (n % m) MY.out HR.out _ wy w8 (Nat.le_of_lt HRL.out)).mono ?_; rintro e' w6 ⟨a5, b5, c5, d5, rfl, w5', hr5, hE⟩; have HR5 := hide hr5; have T7 := ((((S7.set 0 a9).set 1 b9).set 2 c9).set 3 d9).ext hE; have T8 := ((((S8.far (b := w'.heap.size) (by omega) 0 (.int .u64 (a9 : Int))).far (b := w'.heap.size) (by omega) 1 (.int .u64 (b9 : Int))).far (b := w'.heap.size) (by omega) 2 (.int .u64 (c9 : Int))).far (b := w'.heap.size) (by omega) 3 (.int .u64 (d9 : Int))).ext hE; have T0 := (S0.far4 (b' := w'.heap.size) (by omega) (.int .u64 (a9 : Int)) (.int .u64 (b9 : Int)) (.int .u64 (c9 : Int)) (.int .u64 (d9 : Int))).ext hE; have T1 := (S1.far4 (b' := w'.heap.size) (by omega) (.int .u64 (a9 : Int)) (.int .u64 (b9 : Int)) (.int .u64 (c9 : Int)) (.int .u64 (d9 : Int))).ext hE; have T2 := (S2.far4 (b' := w'.heap.size) (by omega) (.int .u64 (a9 : Int)) (.int .u64 (b9 : Int)) (.int .u64 (c9 : Int)) (.int .u64 (d9 : Int))).ext hE; have T3 := (S3.far4 (b' := w'.heap.size) (by omega) (.int .u64 (a9 : Int)) (.int .u64 (b9 : Int)) (.int .u64 (c9 : Int)) (.int .u64 (d9 : Int))).ext hE; have TE := (ext_four SE (b := w'.heap.size) (by omega) (.int .u64 (a9 : Int)) (.int .u64 (b9 : Int)) (.int .u64 (c9 : Int)) (.int .u64 (d9 : Int))).trans hE; obtain ⟨o0, o1, o2, o3, p0, p1, p2, p3⟩ := T8.four; clear hE hr5))
     all_goals go_meet
     all_goals exact ⟨a9, b9, c9, d9, a5, b5, c5, d5, w9, w5', HQ9, HR5, (((T7.far (by omega) _ _).far (by omega) _ _).far (by omega) _ _).far (by omega) _ _, (((T8.set 0 a5).set 1 b5).set 2 c5).set 3 d5, T0.far4 (by omega) _ _ _ _, T1.far4 (by omega) _ _ _ _, T2.far4 (by omega) _ _ _ _, T3.far4 (by omega) _ _ _ _, ext_four TE (by omega) _ _ _ _⟩
 case rest =>
     obtain ⟨a9, b9, c9, d9, a5, b5, c5, d5, w9, w5', HQ9', HR5, hcut⟩ := hcut
     have HZQ : Hid ((if u then -((mag4 a9 b9 c9 d9 : Nat) : Int) else ((mag4 a9 b9 c9 d9 : Nat) : Int)) = x / y) := by rw [HQ9'.out, ← HUU.out]; exact (HDS.out.2 ⟨(by first | rfl | trivial), HNZ.out⟩).1.symm
     have HZR : Hid (((mag4 a5 b5 c5 d5 : Nat) : Int) = x % y) := by rw [HR5.out]; exact (HDS.out.2 ⟨(by first | rfl | trivial), HNZ.out⟩).2.symm
     clear B0 B1 B2 B3 E0 R0 R1 R2 R3 E1
     obtain ⟨Q7, Q8, B0, B1, B2, B3, E0⟩ := hcut
     obtain ⟨c0, c1, c2, c3, c4, f0, f1, f2, f3, f4⟩ := five_cells B0
     obtain ⟨d0, d1, d2, d3, d4, g0, g1, g2, g3, g4⟩ := five_cells B1
     obtain ⟨m0, m1, m2, m3, _, _, _, _⟩ := Q7.four
     obtain ⟨o0, o1, o2, o3, _, _, _, _⟩ := Q8.four
     go_wp2_with fail
     generalize w'.heap.size = gA at *
     have n02 : w.heap.size ≠ w.heap.size + 1 + 1 := by omega
     have n03 : w.heap.size ≠ w.heap.size + 1 + 1 + 1 := by omega
     have n12 : w.heap.size + 1 ≠ w.heap.size + 1 + 1 := by omega
     have n13 : w.heap.size + 1 ≠ w.heap.size + 1 + 1 + 1 := by omega
     have nA2 : gA ≠ w.heap.size + 1 + 1 := by omega
     have nA3 : gA ≠ w.heap.size + 1 + 1 + 1 := by omega
     have nB2 : gA + 1 ≠ w.heap.size + 1 + 1 := by omega
     have nB3 : gA + 1 ≠ w.heap.size + 1 + 1 + 1 := by omega
     go_region_held3 (fun w' => w'.cell? ⟨w.heap.size, 0, none⟩ = some (.bool true) ∧ w'.cell? ⟨w.heap.size + 1, 0, none⟩ = some (.bool t) ∧ w'.cell? ⟨gA, 0, none⟩ = some (.int .u64 (a9 : Int)) ∧ w'.cell? ⟨gA, 1, none⟩ = some (.int .u64 (b9 : Int)) ∧ w'.cell? ⟨gA, 2, none⟩ = some (.int .u64 (c9 : Int)) ∧ w'.cell? ⟨gA, 3, none⟩ = some (.int .u64 (d9 : Int)) ∧ w'.cell? ⟨gA + 1, 0, none⟩ = some (.int .u64 (a5 : Int)) ∧ w'.cell? ⟨gA + 1, 1, none⟩ = some (.int .u64 (b5 : Int)) ∧ w'.cell? ⟨gA + 1, 2, none⟩ = some (.int .u64 (c5 : Int)) ∧ w'.cell? ⟨gA + 1, 3, none⟩ = some (.int .u64 (d5 : Int))) (first | (with_reducible exact ⟨c0, d0, m0, m1, m2, m3, o0, o1, o2, o3⟩) | (with_reducible exact ⟨(cell_far5 _ n02).trans c0, (cell_far5 _ n12).trans d0, (cell_far5 _ nA2).trans m0, (cell_far5 _ nA2).trans m1, (cell_far5 _ nA2).trans m2, (cell_far5 _ nA2).trans m3, (cell_far5 _ nB2).trans o0, (cell_far5 _ nB2).trans o1, (cell_far5 _ nB2).trans o2, (cell_far5 _ nB2).trans o3⟩) | (with_reducible exact ⟨(cell_far5 _ n03).trans c0, (cell_far5 _ n13).trans d0, (cell_far5 _ nA3).trans m0, (cell_far5 _ nA3).trans m1, (cell_far5 _ nA3).trans m2, (cell_far5 _ nA3).trans m3, (cell_far5 _ nB3).trans o0, (cell_far5 _ nB3).trans o1, (cell_far5 _ nB3).trans o2, (cell_far5 _ nB3).trans o3⟩) | (with_reducible exact ⟨(cell_far5 _ n03).trans ((cell_far5 _ n02).trans c0), (cell_far5 _ n13).trans ((cell_far5 _ n12).trans d0), (cell_far5 _ nA3).trans ((cell_far5 _ nA2).trans m0), (cell_far5 _ nA3).trans ((cell_far5 _ nA2).trans m1), (cell_far5 _ nA3).trans ((cell_far5 _ nA2).trans m2), (cell_far5 _ nA3).trans ((cell_far5 _ nA2).trans m3), (cell_far5 _ nB3).trans ((cell_far5 _ nB2).trans o0), (cell_far5 _ nB3).trans ((cell_far5 _ nB2).trans o1), (cell_far5 _ nB3).trans ((cell_far5 _ nB2).trans o2), (cell_far5 _ nB3).trans ((cell_far5 _ nB2).trans o3)⟩) | (with_reducible exact ⟨(cell_far5 _ n02).trans ((cell_far5 _ n03).trans c0), (cell_far5 _ n12).trans ((cell_far5 _ n13).trans d0), (cell_far5 _ nA2).trans ((cell_far5 _ nA3).trans m0), (cell_far5 _ nA2).trans ((cell_far5 _ nA3).trans m1), (cell_far5 _ nA2).trans ((cell_far5 _ nA3).trans m2), (cell_far5 _ nA2).trans ((cell_far5 _ nA3).trans m3), (cell_far5 _ nB2).trans ((cell_far5 _ nB3).trans o0), (cell_far5 _ nB2).trans ((cell_far5 _ nB3).trans o1), (cell_far5 _ nB2).trans ((cell_far5 _ nB3).trans o2), (cell_far5 _ nB2).trans ((cell_far5 _ nB3).trans o3)⟩) | go_keep) (first
       | (go_at_call_of 78 (Value.bool u); refine (p_signed u a9 b9 c9 d9 _ (w64_four w9).1 (w64_four w9).2.1 (w64_four w9).2.2.1 (w64_four w9).2.2.2).mono ?_; rintro e' w7 ⟨s', a', b', c', d', rfl, hC, hE⟩; rw [HZQ.out] at hC; have SA0 : Box w7 w.heap.size true a b c d := (by first | exact SB0.ext hE | exact B0.drew.ext hE); have SA1 : Box w7 (w.heap.size + 1) t e f g h := (by first | exact SB1.ext hE | exact B1.drew.ext hE); have SA2 : Box w7 (w.heap.size + 1 + 1) false 0 0 0 0 := (by first | exact SB2.ext hE | exact B2.drew.ext hE); have SA3 : Box w7 (w.heap.size + 1 + 1 + 1) false 0 0 0 0 := (by first | exact SB3.ext hE | exact B3.drew.ext hE); have SA7 : Arr w7 gA 107 [a9, b9, c9, d9] := (by first | exact SB7.ext hE | exact Q7.drew.ext hE); have SA8 : Arr w7 (gA + 1) 107 [a5, b5, c5, d5] := (by first | exact SB8.ext hE | exact Q8.drew.ext hE); have SAE : Ext w w7 := (by first | exact SBE.trans hE | exact (E0.trans (ext_drew _)).trans hE); have F1 := SAE; obtain ⟨c0, c1, c2, c3, c4, f0, f1, f2, f3, f4⟩ := five_cells SA0; obtain ⟨d0, d1, d2, d3, d4, g0, g1, g2, g3, g4⟩ := five_cells SA1; obtain ⟨i0, i1, i2, i3, i4, j0, j1, j2, j3, j4⟩ := five_cells SA2; obtain ⟨k0, k1, k2, k3, k4, l0, l1, l2, l3, l4⟩ := five_cells SA3; obtain ⟨m0, m1, m2, m3, _, _, _, _⟩ := SA7.four; obtain ⟨o0, o1, o2, o3, _, _, _, _⟩ := SA8.four; clear hE)
       | (go_at_call_of 78 (Value.bool false); refine (p_signed false a5 b5 c5 d5 _ (w64_four w5').1 (w64_four w5').2.1 (w64_four w5').2.2.1 (w64_four w5').2.2.2).mono ?_; rintro e' w8 ⟨s2, a2, b2, c2', d2', rfl, hC2, hE⟩; simp only [Bool.false_eq_true, if_false] at hC2; rw [HZR.out] at hC2; have SB0 : Box w8 w.heap.size true a b c d := (by first | exact SA0.ext hE | exact B0.drew.ext hE); have SB1 : Box w8 (w.heap.size + 1) t e f g h := (by first | exact SA1.ext hE | exact B1.drew.ext hE); have SB2 : Box w8 (w.heap.size + 1 + 1) false 0 0 0 0 := (by first | exact SA2.ext hE | exact B2.drew.ext hE); have SB3 : Box w8 (w.heap.size + 1 + 1 + 1) false 0 0 0 0 := (by first | exact SA3.ext hE | exact B3.drew.ext hE); have SB7 : Arr w8 gA 107 [a9, b9, c9, d9] := (by first | exact SA7.ext hE | exact Q7.drew.ext hE); have SB8 : Arr w8 (gA + 1) 107 [a5, b5, c5, d5] := (by first | exact SA8.ext hE | exact Q8.drew.ext hE); have SBE : Ext w w8 := (by first | exact SAE.trans hE | exact (E0.trans (ext_drew _)).trans hE); have F1 := SBE; obtain ⟨c0, c1, c2, c3, c4, f0, f1, f2, f3, f4⟩ := five_cells SB0; obtain ⟨d0, d1, d2, d3, d4, g0, g1, g2, g3, g4⟩ := five_cells SB1; obtain ⟨i0, i1, i2, i3, i4, j0, j1, j2, j3, j4⟩ := five_cells SB2; obtain ⟨k0, k1, k2, k3, k4, l0, l1, l2, l3, l4⟩ := five_cells SB3; obtain ⟨m0, m1, m2, m3, _, _, _, _⟩ := SB7.four; obtain ⟨o0, o1, o2, o3, _, _, _, _⟩ := SB8.four; clear hE))
     all_goals go_wp2_with fail
     all_goals exact bodyPost_ret (v := .tuple #[.agg #[.bool s', .int .u64 (a' : Int), .int .u64 (b' : Int), .int .u64 (c' : Int), .int .u64 (d' : Int)], .agg #[.bool s2, .int .u64 (a2 : Int), .int .u64 (b2 : Int), .int .u64 (c2' : Int), .int .u64 (d2' : Int)], .bool true]) (by simp [results, Try.results76, go_sem, i0, i1, i2, i3, i4, k0, k1, k2, k3, k4]) rfl (divRet_yes hy0 hC hC2 (ext_five (ext_five F1 (by omega) _ _ _ _ _) (by omega) _ _ _ _ _))
theorem p_divMod (s t : Bool) (a b c d e f g h : Nat) (x y : Int) (w : World) (hx : IsW s a b c d x) (hy : IsW t e f g h y) :
   Calls Try.prog 76 #[.agg #[.bool s, .int .u64 (a : Int), .int .u64 (b : Int), .int .u64 (c : Int), .int .u64 (d : Int)], .agg #[.bool t, .int .u64 (e : Int), .int .u64 (f : Int), .int .u64 (g : Int), .int .u64 (h : Int)]] w (DivRet x y w) := by
 by_cases hy0 : y = 0
 · exact p_divMod_no s t a b c d e f g h x y w hy hy0
 · cases s
   · exact p_divMod_pos t a b c d e f g h x y w hx hy hy0
   · by_cases hz : x.natAbs % y.natAbs = 0
     · exact p_divMod_even t a b c d e f g h x y w hx hy hy0 hz
     · exact p_divMod_odd t a b c d e f g h x y w hx hy hy0 hz
end
section
open Go Go.RowKit
theorem le_drew {n : Nat} {w : World} (h : n ≤ w.heap.size) : n ≤ w.drew.heap.size := h
theorem abs_of {s : Bool} {a b c d : Nat} {x : Int} (h : IsC s a b c d x) : mag4 a b c d = x.natAbs ∧ x = if s then -(x.natAbs : Int) else (x.natAbs : Int) := by
 obtain ⟨⟨h1, h2, h3, h4, h5⟩, _⟩ := h
 have e : mag4 a b c d = x.natAbs := by cases s <;> simp at h5 <;> omega
 exact ⟨e, by rw [← e]; exact h5⟩
set_option maxRecDepth 100000 in
set_option maxHeartbeats 16000000 in
theorem ref_wmul (s t : Bool) (a b c d e f g h : Nat) (x y : Int) (w : World) (hx : IsW s a b c d x) (hy : IsW t e f g h y) :
   Calls Try.prog 72 #[.agg #[.bool s, .int .u64 (a : Int), .int .u64 (b : Int), .int .u64 (c : Int), .int .u64 (d : Int)], .agg #[.bool t, .int .u64 (e : Int), .int .u64 (f : Int), .int .u64 (g : Int), .int .u64 (h : Int)]] w (WideRet (x * y) w) := by
 obtain ⟨W, hW⟩ : ∃ W, W = (((w.alloc (.cells #[.bool s, .int .u64 (a : Int), .int .u64 (b : Int), .int .u64 (c : Int), .int .u64 (d : Int)] 25)).alloc (.cells #[.bool t, .int .u64 (e : Int), .int .u64 (f : Int), .int .u64 (g : Int), .int .u64 (h : Int)] 25)).alloc (.cells #[.bool false, .int .u64 0, .int .u64 0, .int .u64 0, .int .u64 0] 25)) := ⟨_, rfl⟩
 have H3 := three_boxes w (.cells #[.bool s, .int .u64 (a : Int), .int .u64 (b : Int), .int .u64 (c : Int), .int .u64 (d : Int)] 25) (.cells #[.bool t, .int .u64 (e : Int), .int .u64 (f : Int), .int .u64 (g : Int), .int .u64 (h : Int)] 25) (.cells #[.bool false, .int .u64 0, .int .u64 0, .int .u64 0, .int .u64 0] 25)
 rw [← hW] at H3
 have B0 : Box W w.heap.size s a b c d := H3.1
 have B1 : Box W (w.heap.size + 1) t e f g h := H3.2.1
 have B2 : Box W (w.heap.size + 1 + 1) false 0 0 0 0 := H3.2.2
 have E0 : Ext w W := by rw [hW]; exact ((ext_alloc _ _).trans (ext_alloc _ _)).trans (ext_alloc _ _)
 have HW := hide hW
 clear hW H3
 go_enter Try.func72, Try.ntmps72
 go_upto_region 1 with fail
 rw [← HW.out]
 clear HW
 go_cut [] (fun wx => Two w x y wx)
 case first =>
   obtain ⟨c0, c1, c2, c3, c4, f0, f1, f2, f3, f4⟩ := five_cells B0
   obtain ⟨d0, d1, d2, d3, d4, g0, g1, g2, g3, g4⟩ := five_cells B1
   go_region_with (first
     | (go_at_call 29; refine (ref_clean _ _ _ _ _ _ _ (by assumption)).mono ?_; rintro e' w' ⟨s', a', b', c', d', rfl, hC, hE⟩; have R0 := (by first | assumption | exact B0.drew : Box _ w.heap.size s a b c d).ext hE; have R1 := (by first | assumption | exact B1.drew : Box _ (w.heap.size + 1) t e f g h).ext hE; have R2 := (by first | assumption | exact B2.drew : Box _ (w.heap.size + 1 + 1) false 0 0 0 0).ext hE; obtain ⟨c0, c1, c2, c3, c4, f0, f1, f2, f3, f4⟩ := five_cells R0; obtain ⟨d0, d1, d2, d3, d4, g0, g1, g2, g3, g4⟩ := five_cells R1; have E1 := (by first | assumption | exact E0.trans (ext_drew _) : Ext w _).trans hE))
   all_goals go_wp2_with fail
   all_goals go_meet
   all_goals exact ⟨_, _, _, _, _, _, _, _, _, _, ‹IsC _ _ _ _ _ x›, ‹IsC _ _ _ _ _ y›, (R0.put).far (by omega) _ _ _ _ _, (R1.far (by omega) _ _ _ _ _).put, (R2.far (by omega) _ _ _ _ _).far (by omega) _ _ _ _ _, ext_five (ext_five E1 (Nat.le_refl _) _ _ _ _ _) (by omega) _ _ _ _ _⟩
 case rest =>
   clear B0 B1 B2 E0 hx hy
   obtain ⟨s, a, b, c, d, t, e, f, g, h, hx, hy, B0, B1, B2, E0⟩ := hcut
   obtain ⟨n, hn⟩ : ∃ n, x.natAbs = n := ⟨_, rfl⟩
   obtain ⟨m, hm⟩ : ∃ m, y.natAbs = m := ⟨_, rfl⟩
   obtain ⟨mx, sx⟩ := abs_of hx
   obtain ⟨my, sy⟩ := abs_of hy
   rw [hn] at mx sx
   rw [hm] at my sy
   obtain ⟨u, hu⟩ : ∃ u, (s != t) = u := ⟨_, rfl⟩
   have SZ : Hid ((if u then -((n * m : Nat) : Int) else ((n * m : Nat) : Int)) = x * y) := by rw [← hu]; exact (mul_abs s t n m x y sx sy).1
   have hnb := neqB s t u hu
   have kA : Hid (∀ w', w.heap.size ≤ w'.heap.size → Calls Try.prog 30 #[.agg #[.bool s, .int .u64 (a : Int), .int .u64 (b : Int), .int .u64 (c : Int), .int .u64 (d : Int)]] w' (NewWords w.heap.size n w')) := fun w' hw' => by
     obtain ⟨ha, hb, hc, hd, _⟩ := hx.1
     rw [← mx]; exact of_any w.heap.size s a b c d w' hw' ha hb hc hd
   have kB : Hid (∀ w', w.heap.size ≤ w'.heap.size → Calls Try.prog 30 #[.agg #[.bool t, .int .u64 (e : Int), .int .u64 (f : Int), .int .u64 (g : Int), .int .u64 (h : Int)]] w' (NewWords w.heap.size m w')) := fun w' hw' => by
     obtain ⟨ha, hb, hc, hd, _⟩ := hy.1
     rw [← my]; exact of_any w.heap.size t e f g h w' hw' ha hb hc hd
   have L6 : Hid ((limbs n).length ≤ 4) := limbs_len_le.2 (by rw [← mx]; exact mag_lt hx.1.1 hx.1.2.1 hx.1.2.2.1 hx.1.2.2.2.1)
   have L7 : Hid ((limbs m).length ≤ 4) := limbs_len_le.2 (by rw [← my]; exact mag_lt hy.1.1 hy.1.2.1 hy.1.2.2.1 hy.1.2.2.2.1)
   clear hn hm mx my sx sy hu hx hy
   have s0 := E0.size
   obtain ⟨c0, c1, c2, c3, c4, _⟩ := five_cells B0
   obtain ⟨d0, d1, d2, d3, d4, _⟩ := five_cells B1
   obtain ⟨i0, i1, i2, i3, i4, j0, j1, j2, j3, j4⟩ := five_cells B2
   have n02 : w.heap.size ≠ w.heap.size + 1 + 1 := by omega
   have n12 : w.heap.size + 1 ≠ w.heap.size + 1 + 1 := by omega
   go_upto_region 2 with fail
   go_region_held3 (fun w' => w'.cell? ⟨w.heap.size, 0, none⟩ = some (.bool s) ∧ w'.cell? ⟨w.heap.size, 1, none⟩ = some (.int .u64 (a : Int)) ∧ w'.cell? ⟨w.heap.size, 2, none⟩ = some (.int .u64 (b : Int)) ∧ w'.cell? ⟨w.heap.size, 3, none⟩ = some (.int .u64 (c : Int)) ∧ w'.cell? ⟨w.heap.size, 4, none⟩ = some (.int .u64 (d : Int)) ∧ w'.cell? ⟨w.heap.size + 1, 0, none⟩ = some (.bool t) ∧ w'.cell? ⟨w.heap.size + 1, 1, none⟩ = some (.int .u64 (e : Int)) ∧ w'.cell? ⟨w.heap.size + 1, 2, none⟩ = some (.int .u64 (f : Int)) ∧ w'.cell? ⟨w.heap.size + 1, 3, none⟩ = some (.int .u64 (g : Int)) ∧ w'.cell? ⟨w.heap.size + 1, 4, none⟩ = some (.int .u64 (h : Int))) (first | (with_reducible exact ⟨c0, c1, c2, c3, c4, d0, d1, d2, d3, d4⟩) | (with_reducible exact ⟨(cell_far5 _ n02).trans c0, (cell_far5 _ n02).trans c1, (cell_far5 _ n02).trans c2, (cell_far5 _ n02).trans c3, (cell_far5 _ n02).trans c4, (cell_far5 _ n12).trans d0, (cell_far5 _ n12).trans d1, (cell_far5 _ n12).trans d2, (cell_far5 _ n12).trans d3, (cell_far5 _ n12).trans d4⟩) | go_keep) (first
     | (go_at_call 30; (with_reducible refine (kA.out _ (by first | exact s0 | exact le_drew s0)).mono ?_); rintro e' y6 ⟨v6, rfl, hv6, hE⟩; (try (have hv7 := hv7.ext hE)); have B0 : Box y6 w.heap.size s a b c d := (by first | exact B0.ext hE | exact B0.drew.ext hE); have B1 : Box y6 (w.heap.size + 1) t e f g h := (by first | exact B1.ext hE | exact B1.drew.ext hE); have B2 : Box y6 (w.heap.size + 1 + 1) false 0 0 0 0 := (by first | exact B2.ext hE | exact B2.drew.ext hE); have E0 : Ext w y6 := (by first | exact E0.trans hE | exact (E0.trans (ext_drew _)).trans hE); have s0 := E0.size; obtain ⟨c0, c1, c2, c3, c4, _⟩ := five_cells B0; obtain ⟨d0, d1, d2, d3, d4, _⟩ := five_cells B1; obtain ⟨i0, i1, i2, i3, i4, j0, j1, j2, j3, j4⟩ := five_cells B2; clear hE)
     | (go_at_call 30; (with_reducible refine (kB.out _ (by first | exact s0 | exact le_drew s0)).mono ?_); rintro e' y7 ⟨v7, rfl, hv7, hE⟩; (try (have hv6 := hv6.ext hE)); have B0 : Box y7 w.heap.size s a b c d := (by first | exact B0.ext hE | exact B0.drew.ext hE); have B1 : Box y7 (w.heap.size + 1) t e f g h := (by first | exact B1.ext hE | exact B1.drew.ext hE); have B2 : Box y7 (w.heap.size + 1 + 1) false 0 0 0 0 := (by first | exact B2.ext hE | exact B2.drew.ext hE); have E0 : Ext w y7 := (by first | exact E0.trans hE | exact (E0.trans (ext_drew _)).trans hE); have s0 := E0.size; obtain ⟨c0, c1, c2, c3, c4, _⟩ := five_cells B0; obtain ⟨d0, d1, d2, d3, d4, _⟩ := five_cells B1; obtain ⟨i0, i1, i2, i3, i4, j0, j1, j2, j3, j4⟩ := five_cells B2; clear hE)
     | (go_at_call 85; refine (ref_mul w.heap.size _ _ _ _ _ _ _ hv6 hv7 s0 (Nat.le_trans L6.out (by omega)) (Nat.le_trans L7.out (by omega))).mono ?_; rintro e' y8 ⟨v8, rfl, hv8, hE⟩; have B0 := B0.ext hE; have B1 := B1.ext hE; have B2 := B2.ext hE; have E0 := E0.trans hE; have s0 := E0.size; obtain ⟨c0, c1, c2, c3, c4, _⟩ := five_cells B0; obtain ⟨d0, d1, d2, d3, d4, _⟩ := five_cells B1; obtain ⟨i0, i1, i2, i3, i4, j0, j1, j2, j3, j4⟩ := five_cells B2; clear hE)
     | (go_at_call 31; refine (ref_wide _ u _ _ _ hv8).mono ?_; rintro e' y9 ⟨s', a', b', c', d', o', rfl, ho, hC, hE⟩; rw [val_limbs, SZ.out] at ho hC; have Ho := hide ho; clear ho; have B0 := B0.ext hE; have B1 := B1.ext hE; have B2 := B2.ext hE; have E0 := E0.trans hE; have s0 := E0.size; obtain ⟨c0, c1, c2, c3, c4, _⟩ := five_cells B0; obtain ⟨d0, d1, d2, d3, d4, _⟩ := five_cells B1; obtain ⟨i0, i1, i2, i3, i4, j0, j1, j2, j3, j4⟩ := five_cells B2; clear hE))
   all_goals go_wp2_with fail
   all_goals exact bodyPost_ret (v := .tuple #[.agg #[.bool s', .int .u64 (a' : Int), .int .u64 (b' : Int), .int .u64 (c' : Int), .int .u64 (d' : Int)], .bool o']) (by simp [results, Try.results72, go_sem, i0, i1, i2, i3, i4]) rfl ⟨s', a', b', c', d', o', rfl, Ho.out, hC, ext_five E0 (by omega) _ _ _ _ _⟩
theorem ref_divmod (B C D : Nat) (u v : Value) (n m : Nat) (w : World) (h : Words C w u (limbs n)) (k : Words D w v (limbs m)) (hB : B ≤ w.heap.size) (hn : (limbs n).length ≤ 900) (hm : (limbs m).length ≤ 900) (h0 : 0 < m) :
   Calls Try.prog 46 #[u, v] w (DivWords B n m w) := by
 by_cases h1 : m < 18446744073709551616
 · rw [limbs_one m h0 h1] at k
   exact ref_div1 B C D u v n m w h k hB (by omega) h0
 · refine ref_div2 B C D u v n m w h k hB hn hm ?_
   have h2 : ¬ (limbs m).length ≤ 1 := fun e => by have := limbs_len_le.1 e; omega
   omega
def WideYes (z : Int) (w : World) (e : Ending) (w' : World) : Prop := ∃ (s : Bool) (a b c d : Nat), e = .returned (.tuple #[.agg #[.bool s, .int .u64 (a : Int), .int .u64 (b : Int), .int .u64 (c : Int), .int .u64 (d : Int)], .bool true]) ∧ IsC s a b c d z ∧ Ext w w'
theorem ref_wide_yes (C Q : Nat) (s : Bool) (v : Value) (z : Int) (w : World) (h : Words C w v (limbs Q)) (hf : Q < 115792089237316195423570985008687907853269984665640564039457584007913129639936) (hz : (if s then -(Q : Int) else (Q : Int)) = z) :
   Calls Try.prog 31 #[.bool s, v] w (WideYes z w) := by
 refine (ref_wide C s v _ w h).mono ?_
 rintro e w' ⟨s', a, b, c, d, o, rfl, ho, hC, hE⟩
 rw [val_limbs, hz] at ho hC
 have hn : z.natAbs = Q := by rw [← hz]; cases s <;> simp
 rw [hn, if_pos hf] at hC
 have : o = true := by rw [ho, decide_eq_true_iff, hn]; exact hf
 subst this
 exact ⟨s', a, b, c, d, rfl, hC, hE⟩
theorem upd_five (g : Nat) (w : World) (u0 u1 u2 u3 u4 : Value) : Upd g w (((((w.setCell ⟨g, 0, none⟩ u0).setCell ⟨g, 1, none⟩ u1).setCell ⟨g, 2, none⟩ u2).setCell ⟨g, 3, none⟩ u3).setCell ⟨g, 4, none⟩ u4) := (((((Upd.refl g w).set 0 u0).set 1 u1).set 2 u2).set 3 u3).set 4 u4
def Four (w : World) (x y : Int) (wx : World) : Prop := ∃ (s : Bool) (a b c d : Nat) (t : Bool) (e f g h : Nat), IsC s a b c d x ∧ IsC t e f g h y ∧ Box wx w.heap.size s a b c d ∧ Box wx (w.heap.size + 1) t e f g h ∧ Box wx (w.heap.size + 1 + 1) false 0 0 0 0 ∧ Box wx (w.heap.size + 1 + 1 + 1) false 0 0 0 0 ∧ Ext w wx
set_option maxRecDepth 100000 in
set_option maxHeartbeats 16000000 in
theorem ref_wdiv (s t : Bool) (a b c d e f g h : Nat) (x y : Int) (w : World) (hx : IsW s a b c d x) (hy : IsW t e f g h y) :
   Calls Try.prog 22 #[.agg #[.bool s, .int .u64 (a : Int), .int .u64 (b : Int), .int .u64 (c : Int), .int .u64 (d : Int)], .agg #[.bool t, .int .u64 (e : Int), .int .u64 (f : Int), .int .u64 (g : Int), .int .u64 (h : Int)]] w (DivRet x y w) := by
 obtain ⟨W, hW, B0, B1, B2, B3, E0⟩ := four_boxes w s t a b c d e f g h
 have HW := hide hW
 clear hW
 go_enter Try.func22, Try.ntmps22
 go_upto_region 1 with fail
 rw [HW.out]
 clear HW
 go_cut [] (fun wx => Four w x y wx)
 case first =>
   obtain ⟨c0, c1, c2, c3, c4, f0, f1, f2, f3, f4⟩ := five_cells B0
   obtain ⟨d0, d1, d2, d3, d4, g0, g1, g2, g3, g4⟩ := five_cells B1
   go_region_with (first
     | (go_at_call 29; refine (ref_clean _ _ _ _ _ _ _ (by assumption)).mono ?_; rintro e' w' ⟨s', a', b', c', d', rfl, hC, hE⟩; have R0 := (by first | assumption | exact B0.drew : Box _ w.heap.size s a b c d).ext hE; have R1 := (by first | assumption | exact B1.drew : Box _ (w.heap.size + 1) t e f g h).ext hE; have R2 := (by first | assumption | exact B2.drew : Box _ (w.heap.size + 1 + 1) false 0 0 0 0).ext hE; have R3 := (by first | assumption | exact B3.drew : Box _ (w.heap.size + 1 + 1 + 1) false 0 0 0 0).ext hE; obtain ⟨c0, c1, c2, c3, c4, f0, f1, f2, f3, f4⟩ := five_cells R0; obtain ⟨d0, d1, d2, d3, d4, g0, g1, g2, g3, g4⟩ := five_cells R1; have E1 := (by first | assumption | exact E0.trans (ext_drew _) : Ext w _).trans hE))
   all_goals go_wp2_with fail
   all_goals go_meet
   all_goals exact ⟨_, _, _, _, _, _, _, _, _, _, ‹IsC _ _ _ _ _ x›, ‹IsC _ _ _ _ _ y›, (R0.put).far (by omega) _ _ _ _ _, (R1.far (by omega) _ _ _ _ _).put, (R2.far (by omega) _ _ _ _ _).far (by omega) _ _ _ _ _, (R3.far (by omega) _ _ _ _ _).far (by omega) _ _ _ _ _, ext_five (ext_five E1 (Nat.le_refl _) _ _ _ _ _) (by omega) _ _ _ _ _⟩
 case rest =>
   clear B0 B1 B2 B3 E0 hx hy
   obtain ⟨s, a, b, c, d, t, e, f, g, h, hx, hy, B0, B1, B2, B3, E0⟩ := hcut
   by_cases hy0 : y = 0
   · have ks : Hid (∀ w', Calls Try.prog 45 #[.agg #[.bool t, .int .u64 (e : Int), .int .u64 (f : Int), .int .u64 (g : Int), .int .u64 (h : Int)]] w' (IntRet .i64 0 w')) := fun w' => by have := ref_sign _ _ _ _ _ _ w' hy.1; rw [hy0] at this; exact this
     have HY := hide hy0
     clear hx hy hy0 B0
     obtain ⟨d0, d1, d2, d3, d4, _⟩ := five_cells B1
     go_wp2_with (go_at_call 45; (with_reducible refine (ks.out _).mono ?_); rintro e' w2 ⟨rfl, hE⟩; have B2 := B2.ext hE; have B3 := B3.ext hE; have E0 := E0.trans hE; obtain ⟨i0, i1, i2, i3, i4, j0, j1, j2, j3, j4⟩ := five_cells B2; obtain ⟨k0, k1, k2, k3, k4, l0, l1, l2, l3, l4⟩ := five_cells B3; clear hE)
     all_goals exact bodyPost_ret (v := .tuple #[.agg #[.bool false, .int .u64 0, .int .u64 0, .int .u64 0, .int .u64 0], .agg #[.bool false, .int .u64 0, .int .u64 0, .int .u64 0, .int .u64 0], .bool false]) (by simp [results, Try.results22, go_sem, i0, i1, i2, i3, i4, k0, k1, k2, k3, k4]) rfl (divRet_no HY.out (ext_five (ext_five E0 (by omega) _ _ _ _ _) (by omega) _ _ _ _ _))
   · obtain ⟨n, hn⟩ : ∃ n, x.natAbs = n := ⟨_, rfl⟩
     obtain ⟨m, hm⟩ : ∃ m, y.natAbs = m := ⟨_, rfl⟩
     obtain ⟨mx, sx⟩ := abs_of hx
     obtain ⟨my, sy⟩ := abs_of hy
     rw [hn] at mx sx
     rw [hm] at my sy
     have hm0 : 0 < m := by omega
     obtain ⟨u, hu⟩ : ∃ u, (s != t) = u := ⟨_, rfl⟩
     have hds := div_signs s t n m x y sx sy hm0
     rw [hu] at hds
     have HDS := hide hds
     have hnb := neqB s t u hu
     have kA : Hid (∀ w', w.heap.size ≤ w'.heap.size → Calls Try.prog 30 #[.agg #[.bool s, .int .u64 (a : Int), .int .u64 (b : Int), .int .u64 (c : Int), .int .u64 (d : Int)]] w' (NewWords w.heap.size n w')) := fun w' hw' => by
       obtain ⟨ha, hb, hc, hd, _⟩ := hx.1
       rw [← mx]; exact of_any w.heap.size s a b c d w' hw' ha hb hc hd
     have kB : Hid (∀ w', w.heap.size ≤ w'.heap.size → Calls Try.prog 30 #[.agg #[.bool t, .int .u64 (e : Int), .int .u64 (f : Int), .int .u64 (g : Int), .int .u64 (h : Int)]] w' (NewWords w.heap.size m w')) := fun w' hw' => by
       obtain ⟨ha, hb, hc, hd, _⟩ := hy.1
       rw [← my]; exact of_any w.heap.size t e f g h w' hw' ha hb hc hd
     have FN : Hid (n < 115792089237316195423570985008687907853269984665640564039457584007913129639936) := by rw [← mx]; exact mag_lt hx.1.1 hx.1.2.1 hx.1.2.2.1 hx.1.2.2.2.1
     have FM : Hid (m < 115792089237316195423570985008687907853269984665640564039457584007913129639936) := by rw [← my]; exact mag_lt hy.1.1 hy.1.2.1 hy.1.2.2.1 hy.1.2.2.2.1
     have L6 : Hid ((limbs n).length ≤ 4) := limbs_len_le.2 FN.out
     have L7 : Hid ((limbs m).length ≤ 4) := limbs_len_le.2 FM.out
     obtain ⟨sg, hsg⟩ : ∃ sg, y.sign = sg := ⟨_, rfl⟩
     have hsg0 : ¬ (sg = 0) := by rw [← hsg]; intro e; exact hy0 (Int.sign_eq_zero_iff_zero.1 e)
     have ks : Hid (∀ w', Calls Try.prog 45 #[.agg #[.bool t, .int .u64 (e : Int), .int .u64 (f : Int), .int .u64 (g : Int), .int .u64 (h : Int)]] w' (IntRet .i64 sg w')) := fun w' => by rw [← hsg]; exact ref_sign _ _ _ _ _ _ w' hy.1
     have HY := hide hy0
     clear hn hm mx my sx sy hu hx hy hds hsg hy0
     obtain ⟨c0, c1, c2, c3, c4, _⟩ := five_cells B0
     obtain ⟨d0, d1, d2, d3, d4, _⟩ := five_cells B1
     go_upto_region 4 with (go_at_call 45; (with_reducible refine (ks.out _).mono ?_); rintro e' w2 ⟨rfl, hE⟩; have B0 := B0.ext hE; have B1 := B1.ext hE; have B2 := B2.ext hE; have B3 := B3.ext hE; have E0 := E0.trans hE; obtain ⟨c0, c1, c2, c3, c4, _⟩ := five_cells B0; obtain ⟨d0, d1, d2, d3, d4, _⟩ := five_cells B1; clear hE)
     have s0 := E0.size
     go_region_held3 (fun w' => w'.cell? ⟨w.heap.size, 0, none⟩ = some (.bool s) ∧ w'.cell? ⟨w.heap.size, 1, none⟩ = some (.int .u64 (a : Int)) ∧ w'.cell? ⟨w.heap.size, 2, none⟩ = some (.int .u64 (b : Int)) ∧ w'.cell? ⟨w.heap.size, 3, none⟩ = some (.int .u64 (c : Int)) ∧ w'.cell? ⟨w.heap.size, 4, none⟩ = some (.int .u64 (d : Int)) ∧ w'.cell? ⟨w.heap.size + 1, 0, none⟩ = some (.bool t) ∧ w'.cell? ⟨w.heap.size + 1, 1, none⟩ = some (.int .u64 (e : Int)) ∧ w'.cell? ⟨w.heap.size + 1, 2, none⟩ = some (.int .u64 (f : Int)) ∧ w'.cell? ⟨w.heap.size + 1, 3, none⟩ = some (.int .u64 (g : Int)) ∧ w'.cell? ⟨w.heap.size + 1, 4, none⟩ = some (.int .u64 (h : Int))) (first | (with_reducible exact ⟨c0, c1, c2, c3, c4, d0, d1, d2, d3, d4⟩) | go_keep) (first
       | (go_at_call 30; (with_reducible refine (kA.out _ (by first | exact s0 | exact le_drew s0)).mono ?_); rintro e' y6 ⟨v6, rfl, hv6, hE⟩; (try (have hv7 := hv7.ext hE)); have B0 : Box y6 w.heap.size s a b c d := (by first | exact B0.ext hE | exact B0.drew.ext hE); have B1 : Box y6 (w.heap.size + 1) t e f g h := (by first | exact B1.ext hE | exact B1.drew.ext hE); have B2 : Box y6 (w.heap.size + 1 + 1) false 0 0 0 0 := (by first | exact B2.ext hE | exact B2.drew.ext hE); have B3 : Box y6 (w.heap.size + 1 + 1 + 1) false 0 0 0 0 := (by first | exact B3.ext hE | exact B3.drew.ext hE); have E0 : Ext w y6 := (by first | exact E0.trans hE | exact (E0.trans (ext_drew _)).trans hE); have s0 := E0.size; obtain ⟨c0, c1, c2, c3, c4, _⟩ := five_cells B0; obtain ⟨d0, d1, d2, d3, d4, _⟩ := five_cells B1; clear hE)
       | (go_at_call 30; (with_reducible refine (kB.out _ (by first | exact s0 | exact le_drew s0)).mono ?_); rintro e' y7 ⟨v7, rfl, hv7, hE⟩; (try (have hv6 := hv6.ext hE)); have B0 : Box y7 w.heap.size s a b c d := (by first | exact B0.ext hE | exact B0.drew.ext hE); have B1 : Box y7 (w.heap.size + 1) t e f g h := (by first | exact B1.ext hE | exact B1.drew.ext hE); have B2 : Box y7 (w.heap.size + 1 + 1) false 0 0 0 0 := (by first | exact B2.ext hE | exact B2.drew.ext hE); have B3 : Box y7 (w.heap.size + 1 + 1 + 1) false 0 0 0 0 := (by first | exact B3.ext hE | exact B3.drew.ext hE); have E0 : Ext w y7 := (by first | exact E0.trans hE | exact (E0.trans (ext_drew _)).trans hE); have s0 := E0.size; obtain ⟨c0, c1, c2, c3, c4, _⟩ := five_cells B0; obtain ⟨d0, d1, d2, d3, d4, _⟩ := five_cells B1; clear hE)
       | (go_at_call 46; have l3 := B3.lt; refine (ref_divmod _ _ _ _ _ _ _ _ hv6 hv7 (Nat.le_refl _) (Nat.le_trans L6.out (by omega)) (Nat.le_trans L7.out (by omega)) hm0).mono ?_; rintro e' y8 ⟨vq, vr, rfl, hvq, hvr, hE⟩; have B0 := B0.ext hE; have B1 := B1.ext hE; have B2 := B2.ext hE; have B3 := B3.ext hE; have E0 := E0.trans hE; have s0 := E0.size; obtain ⟨c0, c1, c2, c3, c4, _⟩ := five_cells B0; obtain ⟨d0, d1, d2, d3, d4, _⟩ := five_cells B1; clear hE))
     have fq : n / m < 115792089237316195423570985008687907853269984665640564039457584007913129639936 := Nat.lt_of_le_of_lt (Nat.div_le_self _ _) FN.out
     have fr : n % m < 115792089237316195423570985008687907853269984665640564039457584007913129639936 := Nat.lt_of_le_of_lt (Nat.mod_le _ _) FN.out
     obtain ⟨L, hL⟩ : ∃ L, (limbs (n % m)).length = L := ⟨_, rfl⟩
     obtain ⟨ar, cr, rfl, _, _, _⟩ := hvr.shape L hL
     have hLp := len_pos (n % m)
     rw [hL] at hLp
     clear hv6 hv7 kA hL
     cases s
     · have HZ := hide (HDS.out.1 (Or.inl rfl))
       have kq : Hid (∀ C' w', Words C' w' vq (limbs (n / m)) → Calls Try.prog 31 #[.bool u, vq] w' (WideYes (x / y) w')) := fun C' w' hw => ref_wide_yes C' _ u vq _ w' hw fq HZ.out.1.symm
       have kr : Hid (∀ C' w', Words C' w' (.slice ar L cr) (limbs (n % m)) → Calls Try.prog 31 #[.bool false, .slice ar L cr] w' (WideYes (x % y) w')) := fun C' w' hw => ref_wide_yes C' _ false _ _ w' hw fr HZ.out.2.symm
       clear hLp fq fr kB
       have n02 : w.heap.size + 1 + 1 ≠ w.heap.size := by omega
       have n12 : w.heap.size + 1 + 1 ≠ w.heap.size + 1 := by omega
       go_upto_region 10 with (go_at_call 31; (with_reducible refine (kq.out _ _ hvq).mono ?_); rintro e' y9 ⟨s7, a7, b7, c7, d7, rfl, C7, hE⟩; have B2 := B2.ext hE; have B3 := B3.ext hE; have E0 := E0.trans hE; have hvr := hvr.ext hE; obtain ⟨i0, i1, i2, i3, i4, j0, j1, j2, j3, j4⟩ := five_cells B2; clear hE)
       have K7 := hide C7
       have P2 := B2.put (t := s7) (a' := a7) (b' := b7) (c' := c7) (d' := d7)
       have P3 := B3.far (b' := w.heap.size + 1 + 1) (by omega) (.bool s7) (.int .u64 (a7 : Int)) (.int .u64 (b7 : Int)) (.int .u64 (c7 : Int)) (.int .u64 (d7 : Int))
       have P0 := ext_five E0 (b := w.heap.size + 1 + 1) (by omega) (.bool s7) (.int .u64 (a7 : Int)) (.int .u64 (b7 : Int)) (.int .u64 (c7 : Int)) (.int .u64 (d7 : Int))
       have hvr := hvr.upd (upd_five (w.heap.size + 1 + 1) y9 (.bool s7) (.int .u64 (a7 : Int)) (.int .u64 (b7 : Int)) (.int .u64 (c7 : Int)) (.int .u64 (d7 : Int))) (hvr.apart' (by omega))
       generalize ((((y9.setCell ⟨w.heap.size + 1 + 1, 0, none⟩ (.bool s7)).setCell ⟨w.heap.size + 1 + 1, 1, none⟩ (.int .u64 (a7 : Int))).setCell ⟨w.heap.size + 1 + 1, 2, none⟩ (.int .u64 (b7 : Int))).setCell ⟨w.heap.size + 1 + 1, 3, none⟩ (.int .u64 (c7 : Int))).setCell ⟨w.heap.size + 1 + 1, 4, none⟩ (.int .u64 (d7 : Int)) = Y at *
       clear B2 B3 E0 C7
       go_upto_region 11 with (go_at_call 31; (with_reducible refine (kr.out _ _ hvr).mono ?_); rintro e' y10 ⟨s8, a8, b8, c8, d8, rfl, C8, hE⟩; have P2 := P2.ext hE; have P3 := P3.ext hE; have P0 := P0.trans hE; obtain ⟨k0, k1, k2, k3, k4, l0, l1, l2, l3, l4⟩ := five_cells P3; clear hE)
       have K8 := hide C8
       have Q3 := P3.put (t := s8) (a' := a8) (b' := b8) (c' := c8) (d' := d8)
       have Q2 := P2.far (b' := w.heap.size + 1 + 1 + 1) (by omega) (.bool s8) (.int .u64 (a8 : Int)) (.int .u64 (b8 : Int)) (.int .u64 (c8 : Int)) (.int .u64 (d8 : Int))
       have Q0 := ext_five P0 (b := w.heap.size + 1 + 1 + 1) (by omega) (.bool s8) (.int .u64 (a8 : Int)) (.int .u64 (b8 : Int)) (.int .u64 (c8 : Int)) (.int .u64 (d8 : Int))
       generalize ((((y10.setCell ⟨w.heap.size + 1 + 1 + 1, 0, none⟩ (.bool s8)).setCell ⟨w.heap.size + 1 + 1 + 1, 1, none⟩ (.int .u64 (a8 : Int))).setCell ⟨w.heap.size + 1 + 1 + 1, 2, none⟩ (.int .u64 (b8 : Int))).setCell ⟨w.heap.size + 1 + 1 + 1, 3, none⟩ (.int .u64 (c8 : Int))).setCell ⟨w.heap.size + 1 + 1 + 1, 4, none⟩ (.int .u64 (d8 : Int)) = Y2 at *
       clear P2 P3 P0 C8
       obtain ⟨i0, i1, i2, i3, i4, j0, j1, j2, j3, j4⟩ := five_cells Q2
       obtain ⟨k0, k1, k2, k3, k4, l0, l1, l2, l3, l4⟩ := five_cells Q3
       go_region
       all_goals go_wp2_with fail
       all_goals exact bodyPost_ret (v := .tuple #[.agg #[.bool s7, .int .u64 (a7 : Int), .int .u64 (b7 : Int), .int .u64 (c7 : Int), .int .u64 (d7 : Int)], .agg #[.bool s8, .int .u64 (a8 : Int), .int .u64 (b8 : Int), .int .u64 (c8 : Int), .int .u64 (d8 : Int)], .bool true]) (by simp [results, Try.results22, go_sem, i0, i1, i2, i3, i4, k0, k1, k2, k3, k4]) rfl (divRet_yes HY.out K7.out K8.out ((ext_five (ext_five Q0 (by omega) _ _ _ _ _) (by omega) _ _ _ _ _).trans (ext_drew _)))
     · by_cases hz : n % m = 0
       · have HZ := hide (HDS.out.1 (Or.inr hz))
         have hL0 : L = 0 := by omega
         subst hL0
         have kq : Hid (∀ C' w', Words C' w' vq (limbs (n / m)) → Calls Try.prog 31 #[.bool u, vq] w' (WideYes (x / y) w')) := fun C' w' hw => ref_wide_yes C' _ u vq _ w' hw fq HZ.out.1.symm
         have kr : Hid (∀ C' w', Words C' w' (.slice ar 0 cr) (limbs (n % m)) → Calls Try.prog 31 #[.bool false, .slice ar 0 cr] w' (WideYes (x % y) w')) := fun C' w' hw => ref_wide_yes C' _ false _ _ w' hw fr HZ.out.2.symm
         clear hLp fq fr kB hz
         have n02 : w.heap.size + 1 + 1 ≠ w.heap.size := by omega
         have n12 : w.heap.size + 1 + 1 ≠ w.heap.size + 1 := by omega
         go_upto_region 10 with (go_at_call 31; (with_reducible refine (kq.out _ _ hvq).mono ?_); rintro e' y9 ⟨s7, a7, b7, c7, d7, rfl, C7, hE⟩; have B2 := B2.ext hE; have B3 := B3.ext hE; have E0 := E0.trans hE; have hvr := hvr.ext hE; obtain ⟨i0, i1, i2, i3, i4, j0, j1, j2, j3, j4⟩ := five_cells B2; clear hE)
         have K7 := hide C7
         have P2 := B2.put (t := s7) (a' := a7) (b' := b7) (c' := c7) (d' := d7)
         have P3 := B3.far (b' := w.heap.size + 1 + 1) (by omega) (.bool s7) (.int .u64 (a7 : Int)) (.int .u64 (b7 : Int)) (.int .u64 (c7 : Int)) (.int .u64 (d7 : Int))
         have P0 := ext_five E0 (b := w.heap.size + 1 + 1) (by omega) (.bool s7) (.int .u64 (a7 : Int)) (.int .u64 (b7 : Int)) (.int .u64 (c7 : Int)) (.int .u64 (d7 : Int))
         have hvr := hvr.upd (upd_five (w.heap.size + 1 + 1) y9 (.bool s7) (.int .u64 (a7 : Int)) (.int .u64 (b7 : Int)) (.int .u64 (c7 : Int)) (.int .u64 (d7 : Int))) (hvr.apart' (by omega))
         generalize ((((y9.setCell ⟨w.heap.size + 1 + 1, 0, none⟩ (.bool s7)).setCell ⟨w.heap.size + 1 + 1, 1, none⟩ (.int .u64 (a7 : Int))).setCell ⟨w.heap.size + 1 + 1, 2, none⟩ (.int .u64 (b7 : Int))).setCell ⟨w.heap.size + 1 + 1, 3, none⟩ (.int .u64 (c7 : Int))).setCell ⟨w.heap.size + 1 + 1, 4, none⟩ (.int .u64 (d7 : Int)) = Y at *
         clear B2 B3 E0 C7
         go_upto_region 11 with (go_at_call 31; (with_reducible refine (kr.out _ _ hvr).mono ?_); rintro e' y10 ⟨s8, a8, b8, c8, d8, rfl, C8, hE⟩; have P2 := P2.ext hE; have P3 := P3.ext hE; have P0 := P0.trans hE; obtain ⟨k0, k1, k2, k3, k4, l0, l1, l2, l3, l4⟩ := five_cells P3; clear hE)
         have K8 := hide C8
         have Q3 := P3.put (t := s8) (a' := a8) (b' := b8) (c' := c8) (d' := d8)
         have Q2 := P2.far (b' := w.heap.size + 1 + 1 + 1) (by omega) (.bool s8) (.int .u64 (a8 : Int)) (.int .u64 (b8 : Int)) (.int .u64 (c8 : Int)) (.int .u64 (d8 : Int))
         have Q0 := ext_five P0 (b := w.heap.size + 1 + 1 + 1) (by omega) (.bool s8) (.int .u64 (a8 : Int)) (.int .u64 (b8 : Int)) (.int .u64 (c8 : Int)) (.int .u64 (d8 : Int))
         generalize ((((y10.setCell ⟨w.heap.size + 1 + 1 + 1, 0, none⟩ (.bool s8)).setCell ⟨w.heap.size + 1 + 1 + 1, 1, none⟩ (.int .u64 (a8 : Int))).setCell ⟨w.heap.size + 1 + 1 + 1, 2, none⟩ (.int .u64 (b8 : Int))).setCell ⟨w.heap.size + 1 + 1 + 1, 3, none⟩ (.int .u64 (c8 : Int))).setCell ⟨w.heap.size + 1 + 1 + 1, 4, none⟩ (.int .u64 (d8 : Int)) = Y2 at *
         clear P2 P3 P0 C8
         obtain ⟨i0, i1, i2, i3, i4, j0, j1, j2, j3, j4⟩ := five_cells Q2
         obtain ⟨k0, k1, k2, k3, k4, l0, l1, l2, l3, l4⟩ := five_cells Q3
         go_region
         all_goals go_wp2_with fail
         all_goals exact bodyPost_ret (v := .tuple #[.agg #[.bool s7, .int .u64 (a7 : Int), .int .u64 (b7 : Int), .int .u64 (c7 : Int), .int .u64 (d7 : Int)], .agg #[.bool s8, .int .u64 (a8 : Int), .int .u64 (b8 : Int), .int .u64 (c8 : Int), .int .u64 (d8 : Int)], .bool true]) (by simp [results, Try.results22, go_sem, i0, i1, i2, i3, i4, k0, k1, k2, k3, k4]) rfl (divRet_yes HY.out K7.out K8.out ((ext_five (ext_five Q0 (by omega) _ _ _ _ _) (by omega) _ _ _ _ _).trans (ext_drew _)))
       · have HZ := hide (HDS.out.2 ⟨rfl, hz⟩)
         have hL0 : (0 : Int) < (L : Int) := by omega
         have fq1 : n / m + 1 < 115792089237316195423570985008687907853269984665640564039457584007913129639936 := quot_fits n m hm0 hz FN.out
         have fr1 : m - n % m < 115792089237316195423570985008687907853269984665640564039457584007913129639936 := Nat.lt_of_le_of_lt (Nat.sub_le _ _) FM.out
         have hrm : n % m ≤ m := Nat.le_of_lt (Nat.mod_lt _ hm0)
         have lq : Hid ((limbs (n / m)).length ≤ 4) := limbs_len_le.2 fq
         have lr : Hid ((limbs (n % m)).length ≤ 4) := limbs_len_le.2 fr
         have one1 := limbs_one 1 (by omega) (by omega)
         have ONE := hide one1
         have lone : Hid ((limbs 1).length ≤ 1000) := by rw [one1]; unfold Hid; simp
         clear hLp fq fr hz one1
         have s0 := E0.size
         obtain ⟨c0, c1, c2, c3, c4, _⟩ := five_cells B0
         obtain ⟨d0, d1, d2, d3, d4, _⟩ := five_cells B1
         go_upto_region 6 with fail
         have hw1 := words_one y8.drew.heap.size y8.drew 1 y8.drew.heap.size rfl (Nat.le_refl _) (by omega)
         rw [← ONE.out] at hw1
         have HW1 := hide hw1
         clear hw1
         have nn0 := World.new_ne y8 _ (show y8.cell? ⟨w.heap.size + 1, 0, none⟩ = some _ from d0)
         have nn1 := World.new_ne y8 _ (show y8.cell? ⟨w.heap.size + 1, 1, none⟩ = some _ from d1)
         have nn2 := World.new_ne y8 _ (show y8.cell? ⟨w.heap.size + 1, 2, none⟩ = some _ from d2)
         have nn3 := World.new_ne y8 _ (show y8.cell? ⟨w.heap.size + 1, 3, none⟩ = some _ from d3)
         have nn4 := World.new_ne y8 _ (show y8.cell? ⟨w.heap.size + 1, 4, none⟩ = some _ from d4)
         go_region_held3 (fun w' => w'.cell? ⟨w.heap.size + 1, 0, none⟩ = some (.bool t) ∧ w'.cell? ⟨w.heap.size + 1, 1, none⟩ = some (.int .u64 (e : Int)) ∧ w'.cell? ⟨w.heap.size + 1, 2, none⟩ = some (.int .u64 (f : Int)) ∧ w'.cell? ⟨w.heap.size + 1, 3, none⟩ = some (.int .u64 (g : Int)) ∧ w'.cell? ⟨w.heap.size + 1, 4, none⟩ = some (.int .u64 (h : Int))) (first | (with_reducible exact ⟨d0, d1, d2, d3, d4⟩) | go_keep) (first
           | (go_at_call 32; refine (ref_add _ _ _ _ _ (n / m) 1 _ (hvq.ext ((ext_drew _).trans (ext_alloc _ _))) HW1.out (Nat.le_refl _) (Nat.le_trans lq.out (by omega)) lone.out).mono ?_; rintro e' y11 ⟨v11, rfl, hv11, hE0⟩; have hE := ((ext_drew y8).trans (ext_alloc _ _)).trans hE0; have B0 := B0.ext hE; have B1 := B1.ext hE; have B2 := B2.ext hE; have B3 := B3.ext hE; have E0 := E0.trans hE; have s0 := E0.size; have hvr := hvr.ext hE; obtain ⟨d0, d1, d2, d3, d4, _⟩ := five_cells B1; clear hE hE0)
           | (go_at_call 30; (with_reducible refine (kB.out _ s0).mono ?_); rintro e' y12 ⟨v12, rfl, hv12, hE⟩; have hv11 := hv11.ext hE; have B0 := B0.ext hE; have B1 := B1.ext hE; have B2 := B2.ext hE; have B3 := B3.ext hE; have E0 := E0.trans hE; have s0 := E0.size; have hvr := hvr.ext hE; obtain ⟨d0, d1, d2, d3, d4, _⟩ := five_cells B1; clear hE)
           | (go_at_call 34; refine (ref_sub _ _ _ _ _ m (n % m) _ hv12 hvr (Nat.le_refl _) (Nat.le_trans L7.out (by omega)) (Nat.le_trans lr.out (by omega)) hrm).mono ?_; rintro e' y13 ⟨v13, rfl, hv13, hE⟩; have hv11 := hv11.ext hE; have l3 := B3.lt; have B0 := B0.ext hE; have B1 := B1.ext hE; have B2 := B2.ext hE; have B3 := B3.ext hE; have E0 := E0.trans hE; have s0 := E0.size; have hvr := hvr.ext hE; obtain ⟨d0, d1, d2, d3, d4, _⟩ := five_cells B1; clear hE))
         have hvq := hv11
         have hvr := hv13
         have kq : Hid (∀ C' w', Words C' w' v11 (limbs (n / m + 1)) → Calls Try.prog 31 #[.bool u, v11] w' (WideYes (x / y) w')) := fun C' w' hw => ref_wide_yes C' _ u _ _ w' hw fq1 HZ.out.1.symm
         have kr : Hid (∀ C' w', Words C' w' v13 (limbs (m - n % m)) → Calls Try.prog 31 #[.bool false, v13] w' (WideYes (x % y) w')) := fun C' w' hw => ref_wide_yes C' _ false _ _ w' hw fr1 HZ.out.2.symm
         clear fq1 fr1 hrm kB nn0 nn1 nn2 nn3 nn4 hv11 hv13 hv12 HW1
         obtain ⟨c0, c1, c2, c3, c4, _⟩ := five_cells B0
         have n02 : w.heap.size + 1 + 1 ≠ w.heap.size := by omega
         have n12 : w.heap.size + 1 + 1 ≠ w.heap.size + 1 := by omega
         go_upto_region 10 with (go_at_call 31; (with_reducible refine (kq.out _ _ hvq).mono ?_); rintro e' y9 ⟨s7, a7, b7, c7, d7, rfl, C7, hE⟩; have B2 := B2.ext hE; have B3 := B3.ext hE; have E0 := E0.trans hE; have hvr := hvr.ext hE; obtain ⟨i0, i1, i2, i3, i4, j0, j1, j2, j3, j4⟩ := five_cells B2; clear hE)
         have K7 := hide C7
         have P2 := B2.put (t := s7) (a' := a7) (b' := b7) (c' := c7) (d' := d7)
         have P3 := B3.far (b' := w.heap.size + 1 + 1) (by omega) (.bool s7) (.int .u64 (a7 : Int)) (.int .u64 (b7 : Int)) (.int .u64 (c7 : Int)) (.int .u64 (d7 : Int))
         have P0 := ext_five E0 (b := w.heap.size + 1 + 1) (by omega) (.bool s7) (.int .u64 (a7 : Int)) (.int .u64 (b7 : Int)) (.int .u64 (c7 : Int)) (.int .u64 (d7 : Int))
         have hvr := hvr.upd (upd_five (w.heap.size + 1 + 1) y9 (.bool s7) (.int .u64 (a7 : Int)) (.int .u64 (b7 : Int)) (.int .u64 (c7 : Int)) (.int .u64 (d7 : Int))) (hvr.apart' (by omega))
         generalize ((((y9.setCell ⟨w.heap.size + 1 + 1, 0, none⟩ (.bool s7)).setCell ⟨w.heap.size + 1 + 1, 1, none⟩ (.int .u64 (a7 : Int))).setCell ⟨w.heap.size + 1 + 1, 2, none⟩ (.int .u64 (b7 : Int))).setCell ⟨w.heap.size + 1 + 1, 3, none⟩ (.int .u64 (c7 : Int))).setCell ⟨w.heap.size + 1 + 1, 4, none⟩ (.int .u64 (d7 : Int)) = Y at *
         clear B2 B3 E0 C7
         go_upto_region 11 with (go_at_call 31; (with_reducible refine (kr.out _ _ hvr).mono ?_); rintro e' y10 ⟨s8, a8, b8, c8, d8, rfl, C8, hE⟩; have P2 := P2.ext hE; have P3 := P3.ext hE; have P0 := P0.trans hE; obtain ⟨k0, k1, k2, k3, k4, l0, l1, l2, l3, l4⟩ := five_cells P3; clear hE)
         have K8 := hide C8
         have Q3 := P3.put (t := s8) (a' := a8) (b' := b8) (c' := c8) (d' := d8)
         have Q2 := P2.far (b' := w.heap.size + 1 + 1 + 1) (by omega) (.bool s8) (.int .u64 (a8 : Int)) (.int .u64 (b8 : Int)) (.int .u64 (c8 : Int)) (.int .u64 (d8 : Int))
         have Q0 := ext_five P0 (b := w.heap.size + 1 + 1 + 1) (by omega) (.bool s8) (.int .u64 (a8 : Int)) (.int .u64 (b8 : Int)) (.int .u64 (c8 : Int)) (.int .u64 (d8 : Int))
         generalize ((((y10.setCell ⟨w.heap.size + 1 + 1 + 1, 0, none⟩ (.bool s8)).setCell ⟨w.heap.size + 1 + 1 + 1, 1, none⟩ (.int .u64 (a8 : Int))).setCell ⟨w.heap.size + 1 + 1 + 1, 2, none⟩ (.int .u64 (b8 : Int))).setCell ⟨w.heap.size + 1 + 1 + 1, 3, none⟩ (.int .u64 (c8 : Int))).setCell ⟨w.heap.size + 1 + 1 + 1, 4, none⟩ (.int .u64 (d8 : Int)) = Y2 at *
         clear P2 P3 P0 C8
         obtain ⟨i0, i1, i2, i3, i4, j0, j1, j2, j3, j4⟩ := five_cells Q2
         obtain ⟨k0, k1, k2, k3, k4, l0, l1, l2, l3, l4⟩ := five_cells Q3
         go_region
         all_goals go_wp2_with fail
         all_goals exact bodyPost_ret (v := .tuple #[.agg #[.bool s7, .int .u64 (a7 : Int), .int .u64 (b7 : Int), .int .u64 (c7 : Int), .int .u64 (d7 : Int)], .agg #[.bool s8, .int .u64 (a8 : Int), .int .u64 (b8 : Int), .int .u64 (c8 : Int), .int .u64 (d8 : Int)], .bool true]) (by simp [results, Try.results22, go_sem, i0, i1, i2, i3, i4, k0, k1, k2, k3, k4]) rfl (divRet_yes HY.out K7.out K8.out ((ext_five (ext_five Q0 (by omega) _ _ _ _ _) (by omega) _ _ _ _ _).trans (ext_drew _)))
end
section
open Go Go.RowKit
set_option maxHeartbeats 16000000 in
theorem ref_wadd (s t : Bool) (a b c d e f g h : Nat) (x y : Int) (w : World) (hx : IsW s a b c d x) (hy : IsW t e f g h y) :
   Calls Try.prog 12 #[.agg #[.bool s, .int .u64 (a : Int), .int .u64 (b : Int), .int .u64 (c : Int), .int .u64 (d : Int)], .agg #[.bool t, .int .u64 (e : Int), .int .u64 (f : Int), .int .u64 (g : Int), .int .u64 (h : Int)]] w (WideRet (x + y) w) := by
 obtain ⟨W, hW⟩ : ∃ W, W = (((w.alloc (.cells #[.bool s, .int .u64 (a : Int), .int .u64 (b : Int), .int .u64 (c : Int), .int .u64 (d : Int)] 25)).alloc (.cells #[.bool t, .int .u64 (e : Int), .int .u64 (f : Int), .int .u64 (g : Int), .int .u64 (h : Int)] 25)).alloc (.cells #[.bool false, .int .u64 0, .int .u64 0, .int .u64 0, .int .u64 0] 25)) := ⟨_, rfl⟩
 have H3 := three_boxes w (.cells #[.bool s, .int .u64 (a : Int), .int .u64 (b : Int), .int .u64 (c : Int), .int .u64 (d : Int)] 25) (.cells #[.bool t, .int .u64 (e : Int), .int .u64 (f : Int), .int .u64 (g : Int), .int .u64 (h : Int)] 25) (.cells #[.bool false, .int .u64 0, .int .u64 0, .int .u64 0, .int .u64 0] 25)
 rw [← hW] at H3
 have B0 : Box W w.heap.size s a b c d := H3.1
 have B1 : Box W (w.heap.size + 1) t e f g h := H3.2.1
 have B2 : Box W (w.heap.size + 1 + 1) false 0 0 0 0 := H3.2.2
 have E0 : Ext w W := by rw [hW]; exact ((ext_alloc _ _).trans (ext_alloc _ _)).trans (ext_alloc _ _)
 have HW := hide hW
 clear hW H3
 go_enter Try.func12, Try.ntmps12
 go_upto_region 1 with fail
 rw [← HW.out]
 clear HW
 go_cut [] (fun wx => Two w x y wx)
 case first =>
   obtain ⟨c0, c1, c2, c3, c4, f0, f1, f2, f3, f4⟩ := five_cells B0
   obtain ⟨d0, d1, d2, d3, d4, g0, g1, g2, g3, g4⟩ := five_cells B1
   go_region_with (first
     | (go_at_call 29; refine (ref_clean _ _ _ _ _ _ _ (by assumption)).mono ?_; rintro e' w' ⟨s', a', b', c', d', rfl, hC, hE⟩; have R0 := (by first | assumption | exact B0.drew : Box _ w.heap.size s a b c d).ext hE; have R1 := (by first | assumption | exact B1.drew : Box _ (w.heap.size + 1) t e f g h).ext hE; have R2 := (by first | assumption | exact B2.drew : Box _ (w.heap.size + 1 + 1) false 0 0 0 0).ext hE; obtain ⟨c0, c1, c2, c3, c4, f0, f1, f2, f3, f4⟩ := five_cells R0; obtain ⟨d0, d1, d2, d3, d4, g0, g1, g2, g3, g4⟩ := five_cells R1; have E1 := (by first | assumption | exact E0.trans (ext_drew _) : Ext w _).trans hE))
   all_goals go_wp2_with fail
   all_goals go_meet
   all_goals exact ⟨_, _, _, _, _, _, _, _, _, _, ‹IsC _ _ _ _ _ x›, ‹IsC _ _ _ _ _ y›, (R0.put).far (by omega) _ _ _ _ _, (R1.far (by omega) _ _ _ _ _).put, (R2.far (by omega) _ _ _ _ _).far (by omega) _ _ _ _ _, ext_five (ext_five E1 (Nat.le_refl _) _ _ _ _ _) (by omega) _ _ _ _ _⟩
 case rest =>
   clear B0 B1 B2 E0 hx hy
   obtain ⟨s, a, b, c, d, t, e, f, g, h, hx, hy, B0, B1, B2, E0⟩ := hcut
   obtain ⟨ha, hb, hc, hd, hxz⟩ := hx.1
   obtain ⟨he, hf, hg, hh, hyz⟩ := hy.1
   have MX : Hid (mag4 a b c d = x.natAbs) := by unfold Hid; cases s <;> simp at hxz <;> omega
   have MY : Hid (mag4 e f g h = y.natAbs) := by unfold Hid; cases t <;> simp at hyz <;> omega
   have SX : Hid (x = if s then -(x.natAbs : Int) else (x.natAbs : Int)) := by rw [← MX.out]; exact hxz
   have SY : Hid (y = if t then -(y.natAbs : Int) else (y.natAbs : Int)) := by rw [← MY.out]; exact hyz
   clear hxz hyz
   go_upto_region 2 with fail
   go_cut [6, 7] (fun s6 s7 wx => Words w.heap.size wx s6 (limbs x.natAbs) ∧ Words w.heap.size wx s7 (limbs y.natAbs) ∧ Box wx w.heap.size s a b c d ∧ Box wx (w.heap.size + 1) t e f g h ∧ Box wx (w.heap.size + 1 + 1) false 0 0 0 0 ∧ Ext w wx)
   case first =>
     obtain ⟨c0, c1, c2, c3, c4, f0, f1, f2, f3, f4⟩ := five_cells B0
     obtain ⟨d0, d1, d2, d3, d4, g0, g1, g2, g3, g4⟩ := five_cells B1
     go_region_with (first
       | (go_at_call_of 30 (Value.bool s); refine (of_any w.heap.size s a b c d _ (by first | exact E1.size | exact E0.size) ha hb hc hd).mono ?_; rintro e' w' ⟨v6, rfl, hv6, hE⟩; rw [MX.out] at hv6; have R0 := (by first | assumption | exact B0.drew : Box _ w.heap.size s a b c d).ext hE; have R1 := (by first | assumption | exact B1.drew : Box _ (w.heap.size + 1) t e f g h).ext hE; have R2 := (by first | assumption | exact B2.drew : Box _ (w.heap.size + 1 + 1) false 0 0 0 0).ext hE; obtain ⟨c0, c1, c2, c3, c4, f0, f1, f2, f3, f4⟩ := five_cells R0; obtain ⟨d0, d1, d2, d3, d4, g0, g1, g2, g3, g4⟩ := five_cells R1; have E1 := (by first | assumption | exact E0.trans (ext_drew _) : Ext w _).trans hE)
       | (go_at_call_of 30 (Value.bool t); refine (of_any w.heap.size t e f g h _ (by first | exact E1.size | exact E0.size) he hf hg hh).mono ?_; rintro e' w' ⟨v7, rfl, hv7, hE⟩; rw [MY.out] at hv7; have hv6' := hv6.ext hE; have R0 := (by first | assumption | exact B0.drew : Box _ w.heap.size s a b c d).ext hE; have R1 := (by first | assumption | exact B1.drew : Box _ (w.heap.size + 1) t e f g h).ext hE; have R2 := (by first | assumption | exact B2.drew : Box _ (w.heap.size + 1 + 1) false 0 0 0 0).ext hE; have E1 := (by first | assumption | exact E0.trans (ext_drew _) : Ext w _).trans hE))
     all_goals go_wp2_with fail
     all_goals go_meet
     all_goals exact ⟨hv6', hv7, R0, R1, R2, E1⟩
   case rest =>
     clear B0 B1 B2 E0
     obtain ⟨h6, h7, B0, B1, B2, E0⟩ := hcut
     have l6 : (limbs x.natAbs).length ≤ 4 := limbs_len_le.2 (by rw [← MX.out]; exact mag_lt ha hb hc hd)
     have l7 : (limbs y.natAbs).length ≤ 4 := limbs_len_le.2 (by rw [← MY.out]; exact mag_lt he hf hg hh)
     have L6 := hide l6
     have L7 := hide l7
     clear l6 l7
     obtain ⟨c0, c1, c2, c3, c4, f0, f1, f2, f3, f4⟩ := five_cells B0
     obtain ⟨d0, d1, d2, d3, d4, g0, g1, g2, g3, g4⟩ := five_cells B1
     by_cases hst : s = t
     · subst hst
       have SZ : Hid ((if s then -((x.natAbs + y.natAbs : Nat) : Int) else ((x.natAbs + y.natAbs : Nat) : Int)) = x + y) := by
         have h1 := SX.out
         have h2 := SY.out
         cases s <;> simp only [Bool.false_eq_true, if_false, if_true] at h1 h2 <;> simp [Hid] <;> omega
       go_wp2_with fail
       go_region_with (first
         | (go_at_call 32; refine (ref_add w.heap.size _ _ _ _ _ _ _ h6.drew h7.drew (by first | exact E1.size | exact E0.size) (Nat.le_trans L6.out (by omega)) (Nat.le_trans L7.out (by omega))).mono ?_; rintro e' w' ⟨v8, rfl, hv8, hE⟩; have R0 := B0.drew.ext hE; have R2 := B2.drew.ext hE; obtain ⟨c0, c1, c2, c3, c4, f0, f1, f2, f3, f4⟩ := five_cells R0; have E1 := (E0.trans (ext_drew _)).trans hE)
         | (go_at_call 31; refine (ref_wide _ _ _ _ _ hv8).mono ?_; rintro e' w' ⟨s', a', b', c', d', o', rfl, ho, hC, hE⟩; rw [val_limbs, SZ.out] at ho hC; have Ho := hide ho; clear ho; have R3 := R2.ext hE; obtain ⟨i0, i1, i2, i3, i4, j0, j1, j2, j3, j4⟩ := five_cells R3; have E2 := E1.trans hE))
       all_goals go_wp2_with fail
       all_goals exact bodyPost_ret (v := .tuple #[.agg #[.bool s', .int .u64 (a' : Int), .int .u64 (b' : Int), .int .u64 (c' : Int), .int .u64 (d' : Int)], .bool o']) (by simp [results, Try.results12, go_sem, i0, i1, i2, i3, i4]) rfl ⟨s', a', b', c', d', o', rfl, Ho.out, hC, ext_five E2 (by omega) _ _ _ _ _⟩
     · have hts : t = !s := by cases s <;> cases t <;> simp at hst ⊢
       subst hts
       clear hst
       by_cases hlt : x.natAbs < y.natAbs
       · have HS : Hid (sgnN x.natAbs y.natAbs = -1) := if_pos hlt
         have SZ : Hid ((if !s then -((y.natAbs - x.natAbs : Nat) : Int) else ((y.natAbs - x.natAbs : Nat) : Int)) = x + y) := by
           have h1 := SX.out
           have h2 := SY.out
           unfold Hid
           cases s <;> simp only [Bool.false_eq_true, if_false, if_true, Bool.not_false, Bool.not_true] at h1 h2 ⊢ <;> omega
         go_wp2_with (go_at_call 33; refine (compare_any _ _ _ _ _ _ _ h6 h7).mono ?_; rintro e' w' ⟨rfl, hE⟩; rw [HS.out]; have R0 := B0.ext hE; have R1 := B1.ext hE; have R2 := B2.ext hE; have h6' := h6.ext hE; have h7' := h7.ext hE; obtain ⟨c0, c1, c2, c3, c4, f0, f1, f2, f3, f4⟩ := five_cells R0; obtain ⟨d0, d1, d2, d3, d4, g0, g1, g2, g3, g4⟩ := five_cells R1; have E1 := E0.trans hE)
         go_region_with (first
           | (go_at_call 34; refine (ref_sub w.heap.size _ _ _ _ _ _ _ h7'.drew h6'.drew E1.size (Nat.le_trans L7.out (by omega)) (Nat.le_trans L6.out (by omega)) (by omega)).mono ?_; rintro e' w' ⟨v8, rfl, hv8, hE⟩; have R0' := R0.drew.ext hE; have R1' := R1.drew.ext hE; have R2' := R2.drew.ext hE; obtain ⟨c0, c1, c2, c3, c4, f0, f1, f2, f3, f4⟩ := five_cells R0'; obtain ⟨d0, d1, d2, d3, d4, g0, g1, g2, g3, g4⟩ := five_cells R1'; have E1' := (E1.trans (ext_drew _)).trans hE)
           | (go_at_call 31; refine (ref_wide _ _ _ _ _ hv8).mono ?_; rintro e' w' ⟨s', a', b', c', d', o', rfl, ho, hC, hE⟩; rw [val_limbs, SZ.out] at ho hC; have Ho := hide ho; clear ho; have R3 := R2'.ext hE; obtain ⟨i0, i1, i2, i3, i4, j0, j1, j2, j3, j4⟩ := five_cells R3; have E2 := E1'.trans hE))
         all_goals go_wp2_with fail
         all_goals exact bodyPost_ret (v := .tuple #[.agg #[.bool s', .int .u64 (a' : Int), .int .u64 (b' : Int), .int .u64 (c' : Int), .int .u64 (d' : Int)], .bool o']) (by simp [results, Try.results12, go_sem, i0, i1, i2, i3, i4]) rfl ⟨s', a', b', c', d', o', rfl, Ho.out, hC, ext_five E2 (by omega) _ _ _ _ _⟩
       · have h01 : (0 : Int) ≤ sgnN x.natAbs y.natAbs := by unfold sgnN; rw [if_neg hlt]; split <;> omega
         obtain ⟨q, hq⟩ : ∃ q, sgnN x.natAbs y.natAbs = q := ⟨_, rfl⟩
         rw [hq] at h01
         have HS := hide hq
         clear hq
         have SZ : Hid ((if s then -((x.natAbs - y.natAbs : Nat) : Int) else ((x.natAbs - y.natAbs : Nat) : Int)) = x + y) := by
           have h1 := SX.out
           have h2 := SY.out
           unfold Hid
           cases s <;> simp only [Bool.false_eq_true, if_false, if_true, Bool.not_false, Bool.not_true] at h1 h2 ⊢ <;> omega
         go_wp2_with (go_at_call 33; refine (compare_any _ _ _ _ _ _ _ h6 h7).mono ?_; rintro e' w' ⟨rfl, hE⟩; rw [HS.out]; have R0 := B0.ext hE; have R1 := B1.ext hE; have R2 := B2.ext hE; have h6' := h6.ext hE; have h7' := h7.ext hE; obtain ⟨c0, c1, c2, c3, c4, f0, f1, f2, f3, f4⟩ := five_cells R0; obtain ⟨d0, d1, d2, d3, d4, g0, g1, g2, g3, g4⟩ := five_cells R1; have E1 := E0.trans hE)
         go_region_with (first
           | (go_at_call 34; refine (ref_sub w.heap.size _ _ _ _ _ _ _ h6'.drew h7'.drew E1.size (Nat.le_trans L6.out (by omega)) (Nat.le_trans L7.out (by omega)) (by omega)).mono ?_; rintro e' w' ⟨v8, rfl, hv8, hE⟩; have R0' := R0.drew.ext hE; have R1' := R1.drew.ext hE; have R2' := R2.drew.ext hE; obtain ⟨c0, c1, c2, c3, c4, f0, f1, f2, f3, f4⟩ := five_cells R0'; obtain ⟨d0, d1, d2, d3, d4, g0, g1, g2, g3, g4⟩ := five_cells R1'; have E1' := (E1.trans (ext_drew _)).trans hE)
           | (go_at_call 31; refine (ref_wide _ _ _ _ _ hv8).mono ?_; rintro e' w' ⟨s', a', b', c', d', o', rfl, ho, hC, hE⟩; rw [val_limbs, SZ.out] at ho hC; have Ho := hide ho; clear ho; have R3 := R2'.ext hE; obtain ⟨i0, i1, i2, i3, i4, j0, j1, j2, j3, j4⟩ := five_cells R3; have E2 := E1'.trans hE))
         all_goals go_wp2_with fail
         all_goals exact bodyPost_ret (v := .tuple #[.agg #[.bool s', .int .u64 (a' : Int), .int .u64 (b' : Int), .int .u64 (c' : Int), .int .u64 (d' : Int)], .bool o']) (by simp [results, Try.results12, go_sem, i0, i1, i2, i3, i4]) rfl ⟨s', a', b', c', d', o', rfl, Ho.out, hC, ext_five E2 (by omega) _ _ _ _ _⟩
end
section
open Go Go.RowKit
set_option maxRecDepth 100000 in
set_option maxHeartbeats 4000000 in
theorem ref_int64 (s : Bool) (a b c d : Nat) (z : Int) (w : World) (h : IsW s a b c d z) :
   Calls Try.prog 23 #[.agg #[.bool s, .int .u64 (a : Int), .int .u64 (b : Int), .int .u64 (c : Int), .int .u64 (d : Int)]] w (PairRet .i64 (if -9223372036854775808 ≤ z ∧ z ≤ 9223372036854775807 then z else 0) (decide (-9223372036854775808 ≤ z ∧ z ≤ 9223372036854775807)) w) := by
 obtain ⟨r, hr⟩ : ∃ r, (if -9223372036854775808 ≤ z ∧ z ≤ 9223372036854775807 then z else 0) = r := ⟨_, rfl⟩
 obtain ⟨o, ho⟩ : ∃ o, decide (-9223372036854775808 ≤ z ∧ z ≤ 9223372036854775807) = o := ⟨_, rfl⟩
 rw [hr, ho]
 have HR := hide hr
 have HO := hide ho
 clear hr ho
 have HX := hide (ext_alloc w (.cells #[.bool s, .int .u64 (a : Int), .int .u64 (b : Int), .int .u64 (c : Int), .int .u64 (d : Int)] 25))
 have B0 := hide (show Box (w.alloc (.cells #[.bool s, .int .u64 (a : Int), .int .u64 (b : Int), .int .u64 (c : Int), .int .u64 (d : Int)] 25)) w.heap.size s a b c d from heap_alloc_new w _)
 go_enter Try.func23, Try.ntmps23
 go_upto_region 1 with fail
 go_cut [] (fun wx => ∃ (s : Bool) (a b c d : Nat), IsC s a b c d z ∧ Box wx w.heap.size s a b c d ∧ Ext w wx)
 case first =>
   go_wp2_with (go_at_call 29; refine (ref_clean s a b c d z _ h).mono ?_; rintro e' w' ⟨s', a', b', c', d', rfl, hC, hE⟩; have R0 := B0.out.ext hE; have E1 := HX.out.trans hE; obtain ⟨c0, c1, c2, c3, c4, f0, f1, f2, f3, f4⟩ := five_cells R0)
   go_meet
   exact ⟨s', a', b', c', d', hC, R0.put, ext_five E1 (Nat.le_refl _) _ _ _ _ _⟩
 case rest =>
   clear B0 HX h
   obtain ⟨s, a, b, c, d, hC, B0, E0⟩ := hcut
   obtain ⟨ha, hb, hc, hd, hz⟩ := hC.1
   have hs := hC.2
   obtain ⟨n, hn⟩ : ∃ n, mag4 a b c d = n := ⟨_, rfl⟩
   obtain ⟨L, hL⟩ : ∃ L, (limbs n).length = L := ⟨_, rfl⟩
   have hL1 : L ≤ 1 ↔ n < 18446744073709551616 := by rw [← hL]; exact limbs_len_le
   rw [hn] at hz
   have hl0 : L = 0 ↔ n = 0 := by rw [← hL, List.length_eq_zero_iff, limbs_nil]
   have hg0 : ∀ h : 0 < (limbs n).length, (limbs n)[0] = n % 18446744073709551616 := by
     intro h
     have := limbs_getD n 0
     simpa [List.getD, h] using this
   have HG := hide hg0
   have MX := hide hn
   have HL := hide hL
   clear hn hL hg0
   have hcase : (L = 0 ∧ z = 0) ∨ (1 < L ∧ ¬ (-9223372036854775808 ≤ z ∧ z ≤ 9223372036854775807)) ∨ (L = 1 ∧ n < 18446744073709551616 ∧ s = true ∧ n ≤ 9223372036854775808 ∧ z = -(n : Int)) ∨ (L = 1 ∧ n < 18446744073709551616 ∧ s = true ∧ 9223372036854775808 < n ∧ z = -(n : Int)) ∨
       (L = 1 ∧ n < 18446744073709551616 ∧ s = false ∧ n < 9223372036854775808 ∧ z = n) ∨ (L = 1 ∧ n < 18446744073709551616 ∧ s = false ∧ 9223372036854775808 ≤ n ∧ z = n) := by
     cases s <;> simp at hz hs <;> simp <;> omega
   clear hz hs hl0 hL1 hC
   obtain ⟨c0, c1, c2, c3, c4, f0, f1, f2, f3, f4⟩ := five_cells B0
   rcases hcase with ⟨rfl, h1⟩ | ⟨h0, h1⟩ | ⟨rfl, h0, rfl, h1, h2⟩ | ⟨rfl, h0, rfl, h1, h2⟩ | ⟨rfl, h0, rfl, h1, h2⟩ | ⟨rfl, h0, rfl, h1, h2⟩
   · have HH := hide h1
     clear h1
     go_wp2_with (go_at_call 30; refine (of_any w.heap.size _ a b c d _ E0.size ha hb hc hd).mono ?_; rintro e' w' ⟨v, rfl, hv, hE⟩; rw [MX.out] at hv; obtain ⟨a3, c3', rfl, _, _, _⟩ := hv.shape 0 HL.out; have R0 := B0.ext hE; have E1 := E0.trans hE; obtain ⟨c0, c1, c2, c3, c4, f0, f1, f2, f3, f4⟩ := five_cells R0)
     all_goals go_ret2
     all_goals exact ⟨rb2' (by rw [← HR.out, HH.out]; simp) (by rw [← HO.out, HH.out]; simp), E1⟩
   · have HH := hide h1
     clear h1
     go_wp2_with (go_at_call 30; refine (of_any w.heap.size _ a b c d _ E0.size ha hb hc hd).mono ?_; rintro e' w' ⟨v, rfl, hv, hE⟩; rw [MX.out] at hv; obtain ⟨a3, c3', rfl, _, _, _⟩ := hv.shape L HL.out; have R0 := B0.ext hE; have E1 := E0.trans hE; obtain ⟨c0, c1, c2, c3, c4, f0, f1, f2, f3, f4⟩ := five_cells R0)
     all_goals go_ret2
     all_goals exact ⟨rb2' (by rw [← HR.out, if_neg HH.out]) (by rw [← HO.out, decide_eq_false HH.out]), E1⟩
   · have HH := hide (And.intro h1 h2)
     have hI : (n : Int) ≤ 9223372036854775808 := by omega
     clear h2 h1
     have HN : Hid (∀ h : 0 < (limbs n).length, (limbs n)[0] = n) := fun h => by rw [HG.out h, Nat.mod_eq_of_lt h0]
     go_wp2_with (go_at_call 30; refine (of_any w.heap.size _ a b c d _ E0.size ha hb hc hd).mono ?_; rintro e' w' ⟨v, rfl, hv, hE⟩; rw [MX.out] at hv; have hcell := hv; obtain ⟨a3, c3', rfl, _, _, _⟩ := hv.shape 1 HL.out; have hk := hcell.at 0 (by rw [HL.out]; omega); rw [HN.out (by rw [HL.out]; omega)] at hk; obtain ⟨gg, rfl, _, _, cx, _⟩ := hk; have R0 := B0.ext hE; have E1 := E0.trans hE; obtain ⟨c0, c1, c2, c3, c4, f0, f1, f2, f3, f4⟩ := five_cells R0)
     all_goals go_ret2
     all_goals exact ⟨rb2' (by rw [← HR.out, HH.out.2]; have := HH.out.1; rw [if_pos (by omega)]; simp only [wrap64, IntKind.wrap_u64]; omega) (by rw [← HO.out, HH.out.2]; have := HH.out.1; simp; omega), E1⟩
   · have HH := hide (And.intro h1 h2)
     have hI : (9223372036854775809 : Int) ≤ (n : Int) := by omega
     clear h2 h1
     have HN : Hid (∀ h : 0 < (limbs n).length, (limbs n)[0] = n) := fun h => by rw [HG.out h, Nat.mod_eq_of_lt h0]
     go_wp2_with (go_at_call 30; refine (of_any w.heap.size _ a b c d _ E0.size ha hb hc hd).mono ?_; rintro e' w' ⟨v, rfl, hv, hE⟩; rw [MX.out] at hv; have hcell := hv; obtain ⟨a3, c3', rfl, _, _, _⟩ := hv.shape 1 HL.out; have hk := hcell.at 0 (by rw [HL.out]; omega); rw [HN.out (by rw [HL.out]; omega)] at hk; obtain ⟨gg, rfl, _, _, cx, _⟩ := hk; have R0 := B0.ext hE; have E1 := E0.trans hE; obtain ⟨c0, c1, c2, c3, c4, f0, f1, f2, f3, f4⟩ := five_cells R0)
     all_goals go_ret2
     all_goals exact ⟨rb2' (by rw [← HR.out, HH.out.2]; have := HH.out.1; rw [if_neg (by omega)]) (by rw [← HO.out, HH.out.2]; have := HH.out.1; simp; omega), E1⟩
   · have HH := hide (And.intro h1 h2)
     have hI : decide ((9223372036854775808 : Int) ≤ (n : Int)) = false := by simp; omega
     clear h2 h1
     have HN : Hid (∀ h : 0 < (limbs n).length, (limbs n)[0] = n) := fun h => by rw [HG.out h, Nat.mod_eq_of_lt h0]
     go_wp2_with (go_at_call 30; refine (of_any w.heap.size _ a b c d _ E0.size ha hb hc hd).mono ?_; rintro e' w' ⟨v, rfl, hv, hE⟩; rw [MX.out] at hv; have hcell := hv; obtain ⟨a3, c3', rfl, _, _, _⟩ := hv.shape 1 HL.out; have hk := hcell.at 0 (by rw [HL.out]; omega); rw [HN.out (by rw [HL.out]; omega)] at hk; obtain ⟨gg, rfl, _, _, cx, _⟩ := hk; have R0 := B0.ext hE; have E1 := E0.trans hE; obtain ⟨c0, c1, c2, c3, c4, f0, f1, f2, f3, f4⟩ := five_cells R0)
     all_goals go_ret2
     all_goals exact ⟨rb2' (by rw [← HR.out, HH.out.2]; have := HH.out.1; rw [if_pos (by omega)]; simp only [wrap64]; omega) (by rw [← HO.out, HH.out.2]; have := HH.out.1; simp; omega), E1⟩
   · have HH := hide (And.intro h1 h2)
     have hI : (9223372036854775808 : Int) ≤ (n : Int) := by omega
     clear h2 h1
     have HN : Hid (∀ h : 0 < (limbs n).length, (limbs n)[0] = n) := fun h => by rw [HG.out h, Nat.mod_eq_of_lt h0]
     go_wp2_with (go_at_call 30; refine (of_any w.heap.size _ a b c d _ E0.size ha hb hc hd).mono ?_; rintro e' w' ⟨v, rfl, hv, hE⟩; rw [MX.out] at hv; have hcell := hv; obtain ⟨a3, c3', rfl, _, _, _⟩ := hv.shape 1 HL.out; have hk := hcell.at 0 (by rw [HL.out]; omega); rw [HN.out (by rw [HL.out]; omega)] at hk; obtain ⟨gg, rfl, _, _, cx, _⟩ := hk; have R0 := B0.ext hE; have E1 := E0.trans hE; obtain ⟨c0, c1, c2, c3, c4, f0, f1, f2, f3, f4⟩ := five_cells R0)
     all_goals go_ret2
     all_goals exact ⟨rb2' (by rw [← HR.out, HH.out.2]; have := HH.out.1; rw [if_neg (by omega)]) (by rw [← HO.out, HH.out.2]; have := HH.out.1; simp; omega), E1⟩
end
section
open Go Go.RowKit
theorem isC_some (z : Int) (h : z.natAbs < 115792089237316195423570985008687907853269984665640564039457584007913129639936) : ∃ (s : Bool) (a b c d : Nat), IsC s a b c d z := by
 obtain ⟨a, b, c, d, _, hC⟩ := natV_isC (decide (z < 0)) z.natAbs (limbs_len_le.2 h)
 have e : (if decide (z < 0) then -(z.natAbs : Int) else (z.natAbs : Int)) = z := by
   by_cases h0 : z < 0
   · rw [decide_eq_true h0]; simp; omega
   · rw [decide_eq_false h0]; simp; omega
 rw [e] at hC
 exact ⟨_, a, b, c, d, hC⟩
end
section
open Go Go.RowKit
def sg (z : Int) : Bool := decide (z < 0)
def l0 (z : Int) : Nat := z.natAbs % 18446744073709551616
def l1 (z : Int) : Nat := z.natAbs / 18446744073709551616 % 18446744073709551616
def l2 (z : Int) : Nat := z.natAbs / 340282366920938463463374607431768211456 % 18446744073709551616
def l3 (z : Int) : Nat := z.natAbs / 6277101735386680763835789423207666416102355444464034512896 % 18446744073709551616
def F256 (z : Int) : Prop := z.natAbs < 115792089237316195423570985008687907853269984665640564039457584007913129639936
theorem isC_fix {s : Bool} {a b c d : Nat} {z : Int} (h : IsC s a b c d z) : s = sg z ∧ a = l0 z ∧ b = l1 z ∧ c = l2 z ∧ d = l3 z := by
 obtain ⟨⟨h1, h2, h3, h4, h5⟩, h6⟩ := h
 have hm : z.natAbs = mag4 a b c d := by cases s <;> simp at h5 <;> omega
 simp only [mag4, val] at hm h5
 refine ⟨?_, ?_, ?_, ?_, ?_⟩
 · cases s
   · simp at h5; unfold sg; symm; rw [decide_eq_false_iff_not]; omega
   · have := h6 rfl; simp at h5; unfold sg; symm; rw [decide_eq_true_iff]; omega
 · unfold l0; omega
 · unfold l1; omega
 · unfold l2; omega
 · unfold l3; omega
theorem isC_of {z : Int} (h : F256 z) : IsC (sg z) (l0 z) (l1 z) (l2 z) (l3 z) z := by
 obtain ⟨s, a, b, c, d, k⟩ := isC_some z h
 obtain ⟨rfl, rfl, rfl, rfl, rfl⟩ := isC_fix k
 exact k
theorem ret_wide {z : Int} {w w' : World} {e : Ending} (h : WideOnly z w e w') : Ret (.agg #[.bool (sg z), .int .u64 (l0 z : Int), .int .u64 (l1 z : Int), .int .u64 (l2 z : Int), .int .u64 (l3 z : Int)]) w e w' := by
 obtain ⟨s, a, b, c, d, rfl, k, hE⟩ := h
 obtain ⟨rfl, rfl, rfl, rfl, rfl⟩ := isC_fix k
 exact ⟨rfl, hE⟩
theorem ret_pair {z : Int} {w w' : World} {e : Ending} (h : WideRet z w e w') (hz : F256 z) : Ret (.tuple #[.agg #[.bool (sg z), .int .u64 (l0 z : Int), .int .u64 (l1 z : Int), .int .u64 (l2 z : Int), .int .u64 (l3 z : Int)], .bool true]) w e w' := by
 obtain ⟨s, a, b, c, d, o, rfl, ho, hC, hE⟩ := h
 rw [if_pos (show z.natAbs < 115792089237316195423570985008687907853269984665640564039457584007913129639936 from hz)] at hC
 have : o = true := by rw [ho, decide_eq_true_iff]; exact hz
 subst this
 obtain ⟨rfl, rfl, rfl, rfl, rfl⟩ := isC_fix hC
 exact ⟨rfl, hE⟩
theorem ret_div {x y : Int} {w w' : World} {e : Ending} (h : DivRet x y w e w') (hy : y ≠ 0) : Ret (.tuple #[.agg #[.bool (sg (x / y)), .int .u64 (l0 (x / y) : Int), .int .u64 (l1 (x / y) : Int), .int .u64 (l2 (x / y) : Int), .int .u64 (l3 (x / y) : Int)], .agg #[.bool (sg (x % y)), .int .u64 (l0 (x % y) : Int), .int .u64 (l1 (x % y) : Int), .int .u64 (l2 (x % y) : Int), .int .u64 (l3 (x % y) : Int)], .bool true]) w e w' := by
 obtain ⟨s, a, b, c, d, s', a', b', c', d', o, rfl, ho, k1, k2, hE⟩ := h
 rw [if_neg hy] at k1 k2
 have : o = true := by rw [ho, decide_eq_true_iff]; exact hy
 subst this
 obtain ⟨rfl, rfl, rfl, rfl, rfl⟩ := isC_fix k1
 obtain ⟨rfl, rfl, rfl, rfl, rfl⟩ := isC_fix k2
 exact ⟨rfl, hE⟩
theorem c_add {x y z : Int} (hx : F256 x) (hy : F256 y) (e : x + y = z) (hz : F256 z) (w : World) : Calls Try.prog 73 #[.agg #[.bool (sg x), .int .u64 (l0 x : Int), .int .u64 (l1 x : Int), .int .u64 (l2 x : Int), .int .u64 (l3 x : Int)], .agg #[.bool (sg y), .int .u64 (l0 y : Int), .int .u64 (l1 y : Int), .int .u64 (l2 y : Int), .int .u64 (l3 y : Int)]] w (Ret (.tuple #[.agg #[.bool (sg z), .int .u64 (l0 z : Int), .int .u64 (l1 z : Int), .int .u64 (l2 z : Int), .int .u64 (l3 z : Int)], .bool true]) w) :=
 (p_wadd _ _ _ _ _ _ _ _ _ _ x y w (isC_of hx).1 (isC_of hy).1).mono fun _ _ h => ret_pair (by rw [e] at h; exact h) hz
theorem c_div {x y q r : Int} (hx : F256 x) (hy : F256 y) (y0 : y ≠ 0) (e1 : x / y = q) (e2 : x % y = r) (w : World) : Calls Try.prog 76 #[.agg #[.bool (sg x), .int .u64 (l0 x : Int), .int .u64 (l1 x : Int), .int .u64 (l2 x : Int), .int .u64 (l3 x : Int)], .agg #[.bool (sg y), .int .u64 (l0 y : Int), .int .u64 (l1 y : Int), .int .u64 (l2 y : Int), .int .u64 (l3 y : Int)]] w (Ret (.tuple #[.agg #[.bool (sg q), .int .u64 (l0 q : Int), .int .u64 (l1 q : Int), .int .u64 (l2 q : Int), .int .u64 (l3 q : Int)], .agg #[.bool (sg r), .int .u64 (l0 r : Int), .int .u64 (l1 r : Int), .int .u64 (l2 r : Int), .int .u64 (l3 r : Int)], .bool true]) w) :=
 (p_divMod _ _ _ _ _ _ _ _ _ _ x y w (isC_of hx).1 (isC_of hy).1).mono fun _ _ h => by have h := ret_div h y0; rw [e1, e2] at h; exact h
theorem c_ofi {x : Int} (h1 : -9223372036854775808 ≤ x) (h2 : x ≤ 9223372036854775807) (w : World) : Calls Try.prog 68 #[.int .i64 x] w (Ret (.agg #[.bool (sg x), .int .u64 (l0 x : Int), .int .u64 (l1 x : Int), .int .u64 (l2 x : Int), .int .u64 (l3 x : Int)]) w) :=
 (p_ofi x w h1 h2).mono fun _ _ h => ret_wide h
theorem d_add {x y z : Int} (hx : F256 x) (hy : F256 y) (e : x + y = z) (hz : F256 z) (w : World) : Calls Try.prog 12 #[.agg #[.bool (sg x), .int .u64 (l0 x : Int), .int .u64 (l1 x : Int), .int .u64 (l2 x : Int), .int .u64 (l3 x : Int)], .agg #[.bool (sg y), .int .u64 (l0 y : Int), .int .u64 (l1 y : Int), .int .u64 (l2 y : Int), .int .u64 (l3 y : Int)]] w (Ret (.tuple #[.agg #[.bool (sg z), .int .u64 (l0 z : Int), .int .u64 (l1 z : Int), .int .u64 (l2 z : Int), .int .u64 (l3 z : Int)], .bool true]) w) :=
 (ref_wadd _ _ _ _ _ _ _ _ _ _ x y w (isC_of hx).1 (isC_of hy).1).mono fun _ _ h => ret_pair (by rw [e] at h; exact h) hz
theorem d_mul {x y z : Int} (hx : F256 x) (hy : F256 y) (e : x * y = z) (hz : F256 z) (w : World) : Calls Try.prog 72 #[.agg #[.bool (sg x), .int .u64 (l0 x : Int), .int .u64 (l1 x : Int), .int .u64 (l2 x : Int), .int .u64 (l3 x : Int)], .agg #[.bool (sg y), .int .u64 (l0 y : Int), .int .u64 (l1 y : Int), .int .u64 (l2 y : Int), .int .u64 (l3 y : Int)]] w (Ret (.tuple #[.agg #[.bool (sg z), .int .u64 (l0 z : Int), .int .u64 (l1 z : Int), .int .u64 (l2 z : Int), .int .u64 (l3 z : Int)], .bool true]) w) :=
 (ref_wmul _ _ _ _ _ _ _ _ _ _ x y w (isC_of hx).1 (isC_of hy).1).mono fun _ _ h => ret_pair (by rw [e] at h; exact h) hz
theorem d_div {x y q r : Int} (hx : F256 x) (hy : F256 y) (y0 : y ≠ 0) (e1 : x / y = q) (e2 : x % y = r) (w : World) : Calls Try.prog 22 #[.agg #[.bool (sg x), .int .u64 (l0 x : Int), .int .u64 (l1 x : Int), .int .u64 (l2 x : Int), .int .u64 (l3 x : Int)], .agg #[.bool (sg y), .int .u64 (l0 y : Int), .int .u64 (l1 y : Int), .int .u64 (l2 y : Int), .int .u64 (l3 y : Int)]] w (Ret (.tuple #[.agg #[.bool (sg q), .int .u64 (l0 q : Int), .int .u64 (l1 q : Int), .int .u64 (l2 q : Int), .int .u64 (l3 q : Int)], .agg #[.bool (sg r), .int .u64 (l0 r : Int), .int .u64 (l1 r : Int), .int .u64 (l2 r : Int), .int .u64 (l3 r : Int)], .bool true]) w) :=
 (ref_wdiv _ _ _ _ _ _ _ _ _ _ x y w (isC_of hx).1 (isC_of hy).1).mono fun _ _ h => by have h := ret_div h y0; rw [e1, e2] at h; exact h
theorem d_cmp {x y r : Int} (hx : F256 x) (hy : F256 y) (e : cmpI x y = r) (w : World) : Calls Try.prog 58 #[.agg #[.bool (sg x), .int .u64 (l0 x : Int), .int .u64 (l1 x : Int), .int .u64 (l2 x : Int), .int .u64 (l3 x : Int)], .agg #[.bool (sg y), .int .u64 (l0 y : Int), .int .u64 (l1 y : Int), .int .u64 (l2 y : Int), .int .u64 (l3 y : Int)]] w (Ret (.int .i64 r) w) :=
 (ref_compare _ _ _ _ _ _ _ _ _ _ x y w (isC_of hx).1 (isC_of hy).1).mono fun _ _ h => by rw [e] at h; exact h
theorem d_sign {x r : Int} (hx : F256 x) (e : x.sign = r) (w : World) : Calls Try.prog 45 #[.agg #[.bool (sg x), .int .u64 (l0 x : Int), .int .u64 (l1 x : Int), .int .u64 (l2 x : Int), .int .u64 (l3 x : Int)]] w (Ret (.int .i64 r) w) :=
 (ref_sign _ _ _ _ _ x w (isC_of hx).1).mono fun _ _ h => by rw [e] at h; exact h
theorem d_ofi {x : Int} (h1 : -9223372036854775808 ≤ x) (h2 : x ≤ 9223372036854775807) (w : World) : Calls Try.prog 13 #[.int .i64 x] w (Ret (.agg #[.bool (sg x), .int .u64 (l0 x : Int), .int .u64 (l1 x : Int), .int .u64 (l2 x : Int), .int .u64 (l3 x : Int)]) w) :=
 (ref_ofi x w h1 h2).mono fun _ _ h => ret_wide h
theorem d_valid {x : Int} (hx : F256 x) (w : World) : Calls Try.prog 47 #[.agg #[.bool (sg x), .int .u64 (l0 x : Int), .int .u64 (l1 x : Int), .int .u64 (l2 x : Int), .int .u64 (l3 x : Int)]] w (Ret (.bool true) w) :=
 (ref_valid _ _ _ _ _ x w (isC_of hx).1).mono fun _ _ h => by
   have : (!sg x || decide (x ≠ 0)) = true := by
     have := (isC_of hx).2
     cases hs : sg x <;> simp; exact this hs
   rw [this] at h; exact h
theorem d_int64 {x : Int} (hx : F256 x) (h1 : -9223372036854775808 ≤ x) (h2 : x ≤ 9223372036854775807) (w : World) : Calls Try.prog 23 #[.agg #[.bool (sg x), .int .u64 (l0 x : Int), .int .u64 (l1 x : Int), .int .u64 (l2 x : Int), .int .u64 (l3 x : Int)]] w (Ret (.tuple #[.int .i64 x, .bool true]) w) :=
 (ref_int64 _ _ _ _ _ x w (isC_of hx).1).mono fun _ _ h => by rw [if_pos ⟨h1, h2⟩, decide_eq_true ⟨h1, h2⟩] at h; exact h
end
section
open Go Go.RowKit
def Frac (n d : Int) : Prop := 0 < d ∧ n.natAbs < 170141183460469231731687303715884105728 ∧ d.natAbs < 170141183460469231731687303715884105728 ∧ Int.gcd n d = 1
instance (n d : Int) : Decidable (Frac n d) := by unfold Frac; infer_instance
open Go Go.RowKit
def same5 (s s' : Bool) (a b c e a' b' c' e' : Int) : Bool := s == s' && (a == a' && (b == b' && (c == c' && e == e')))
theorem same_isC {s t : Bool} {a b c d e f g h : Nat} {x y : Int} (hx : IsC s a b c d x) (hy : IsC t e f g h y) : same5 s t a b c d e f g h = decide (x = y) := by
 unfold same5
 by_cases hxy : x = y
 · subst hxy
   obtain ⟨rfl, rfl, rfl, rfl, rfl⟩ := hx.uniq hy
   simp
 · rw [decide_eq_false hxy, ← Bool.not_eq_true]
   intro h1
   simp only [Bool.and_eq_true, beq_iff_eq] at h1
   obtain ⟨rfl, h2, h3, h4, h5⟩ := h1
   obtain rfl : a = e := by omega
   obtain rfl : b = f := by omega
   obtain rfl : c = g := by omega
   obtain rfl : d = h := by omega
   exact hxy (hx.1.2.2.2.2.trans hy.1.2.2.2.2.symm)
end
section
open Go Go.RowKit
def Good (s : Bool) (z : Int) : Prop := s = true → z ≠ 0
end
section
open Go Go.RowKit
instance (s : Bool) (z : Int) : Decidable (Good s z) := by unfold Good; infer_instance
def RatOk (s : Bool) (x : Int) (t : Bool) (y : Int) : Prop := Good s x ∧ Good t y ∧ Frac x y
instance (s : Bool) (x : Int) (t : Bool) (y : Int) : Decidable (RatOk s x t y) := by unfold RatOk; infer_instance
open Go Go.RowKit
end
section
open Go Go.RowKit
def Quot (B : World) (z : Int) (p : Value) (wx : World) : Prop := ∃ g s a b c d, p = .pointer (some ⟨g, 0, none⟩) ∧ IsC s a b c d z ∧ Box wx g s a b c d ∧ B.heap.size ≤ g ∧ Ext B wx
section
variable {B U : World} {z : Int} {s : Bool} {a b c d : Nat} {o : Obj} {u0 u1 u2 u3 u4 : Value} {g g' : Nat}
theorem one1 (hC : IsC s a b c d z) (hE : Ext B U) (hz : Box U g false 0 0 0 0) (h1 : B.heap.size ≤ g) : Quot B z (.pointer (some ⟨g, 0, none⟩)) (((((U.setCell ⟨g, 0, none⟩ (.bool s)).setCell ⟨g, 1, none⟩ (.int .u64 (a : Int))).setCell ⟨g, 2, none⟩ (.int .u64 (b : Int))).setCell ⟨g, 3, none⟩ (.int .u64 (c : Int))).setCell ⟨g, 4, none⟩ (.int .u64 (d : Int))) :=
 ⟨_, s, a, b, c, d, rfl, hC, hz.put, h1, ext_five hE h1 _ _ _ _ _⟩
end
end
section
open Go Go.RowKit Go.Sort
theorem F256.mk {z : Int} (h : z.natAbs < 170141183460469231731687303715884105728) : F256 z := by unfold F256; omega
theorem Frac.fn {n d : Int} (h : Frac n d) : F256 n := F256.mk h.2.1
theorem Frac.fd {n d : Int} (h : Frac n d) : F256 d := F256.mk h.2.2.1
theorem Frac.ok {n d : Int} (h : Frac n d) : decide (RatOk (sg n) n (sg d) d) = true := decide_eq_true ⟨(isC_of h.fn).2, (isC_of h.fd).2, h⟩
end
section
open Go Go.RowKit
theorem shr_cast' (u m : Nat) : (u : Int) / 2 ^ m = ((u >>> m : Nat) : Int) := by rw [Nat.shiftRight_eq_div_pow]; simp
theorem shr_le' {u q k : Nat} (hu : u < 18446744073709551616) (h : k ≤ q) : u >>> q ≤ 18446744073709551615 / 2 ^ k := by
 rw [Nat.shiftRight_eq_div_pow]
 exact Nat.le_trans (Nat.div_le_div_left (Nat.pow_le_pow_right (by omega) h) (Nat.two_pow_pos k)) (Nat.div_le_div_right (by omega))
def Tol (v : Int) : Prop := 0 ≤ v ∧ v ≤ 4611686018427387904
set_option maxHeartbeats 3200000 in
set_option maxRecDepth 100000 in
theorem t_tol (B b : Nat) (W w : World) (hT : TapeOk B w b) (hU : Upd b W w) : Calls Try.prog 17 #[.pointer (some ⟨b, 0, none⟩)] w (NextPost B b Tol .i64 W) := by
 have i8 : I64 8 := ⟨by omega, by omega⟩
 have i2 : I64 2 := ⟨by omega, by omega⟩
 have i60 : I64 60 := ⟨by omega, by omega⟩
 have i30 : I64 30 := ⟨by omega, by omega⟩
 have HT := hide hT
 have HU := hide hU
 clear hT hU
 go_enter Try.func17, Try.ntmps17
 go_upto_region 2 with (go_at_call 11; (with_reducible refine (t_next B b 8 _ i8 HT.out).mono ?_); rintro e w1 ⟨x, rfl, hx, T1, u1⟩; have T1 := hide T1; have U1 := hide (HU.out.trans u1); have x0 := hx.1; clear hx u1 HT HU)
 by_cases h0 : x = 0
 · have d0 : (x == 0) = true := by rw [beq_iff_eq]; exact h0
   clear h0 x0
   go_wp2_with fail
   go_ret
   exact ⟨0, rfl, ⟨by omega, by omega⟩, T1.out, U1.out⟩
 have d0 : (x == 0) = false := by rw [beq_eq_false_iff_ne]; exact h0
 by_cases h1 : x = 1
 · have d1 : (x == 1) = true := by rw [beq_iff_eq]; exact h1
   clear h0 x0 h1
   go_upto_region 5 with fail
   go_upto_region 9 with (go_at_call 11; (with_reducible refine (t_next B b 2 _ i2 T1.out).mono ?_); rintro e w2 ⟨y, rfl, hy, T2, u2⟩; have T2 := hide T2; have U2 := hide (U1.out.trans u2); have y0 := hy.1; have y1 := hy.2.1 (by omega); obtain ⟨z, hz⟩ : ∃ z, 4611686018427387904 - y = z := ⟨_, rfl⟩; have z1 : 0 ≤ z := (by omega); have z2 : z ≤ 4611686018427387904 := (by omega); clear hy u2 T1 U1 y0 y1)
   go_ret
   exact ⟨z, rfl, ⟨z1, z2⟩, T2.out, U2.out⟩
 have d1 : (x == 1) = false := by rw [beq_eq_false_iff_ne]; exact h1
 by_cases h2 : x = 2
 · have d2 : (x == 2) = true := by rw [beq_iff_eq]; exact h2
   clear h0 x0 h1 h2
   go_upto_region 7 with fail
   go_wp2_with (first
     | (go_at_call 41; (with_reducible refine (t_word B b _ T1.out).mono ?_); rintro e w3 ⟨u, rfl, hu, T3, u3⟩; obtain ⟨xw, rfl⟩ := Int.eq_ofNat_of_zero_le hu.1; have hxw : xw < 18446744073709551616 := (by have := hu.2; omega); have T3 := hide T3; have U3 := hide (U1.out.trans u3); clear hu u3 T1 U1)
     | (go_at_call 11; (with_reducible refine (t_next B b 60 _ i60 T3.out).mono ?_); rintro e w4 ⟨s, rfl, hs, T4, u4⟩; obtain ⟨y, rfl⟩ := Int.eq_ofNat_of_zero_le hs.1; have hy : y < 60 := (by have := hs.2.1 (by omega); omega); obtain ⟨q, hq⟩ : ∃ q : Nat, 2 + y = q := ⟨_, rfl⟩; have eq1 : (2 : Int) + (y : Int) = (q : Int) := (by omega); have hr := shr_le' (q := q) (k := 2) hxw (by omega); have e1 := shr_cast' xw q; obtain ⟨r, hrr⟩ : ∃ r, xw >>> q = r := ⟨_, rfl⟩; rw [hrr] at e1 hr; have hr2 : r ≤ 4611686018427387904 := (Nat.le_trans hr (by decide)); have hq2 : q ≤ 64 := (by omega); clear hq hr hrr; have T4 := hide T4; have U4 := hide (U3.out.trans u4); clear hs u4 T3 U3))
   go_ret
   exact ⟨r, by go_num, ⟨by omega, by omega⟩, T4.out, U4.out⟩
 have d2 : (x == 2) = false := by rw [beq_eq_false_iff_ne]; exact h2
 clear h0 x0 h1 h2
 go_wp2_with (go_at_call 11; (with_reducible refine (t_next B b 30 _ i30 T1.out).mono ?_); rintro e w2 ⟨y, rfl, hy, T2, u2⟩; have T2 := hide T2; have U2 := hide (U1.out.trans u2); have y0 := hy.1; have y1 := hy.2.1 (by omega); clear hy u2 T1 U1)
 go_ret
 exact ⟨y, rfl, ⟨y0, by omega⟩, T2.out, U2.out⟩
end
section
def Best (a b c d n m : Int) : Prop := 0 < m ∧ a * m ≤ n * b ∧ n * d ≤ c * m ∧ ∀ p q : Int, 0 < q → a * q ≤ p * b → p * d ≤ c * q → m ≤ q ∧ n.natAbs ≤ p.natAbs
theorem Best.zero {a b c d : Int} (h1 : a ≤ 0) (h2 : 0 ≤ c) : Best a b c d 0 1 :=
 ⟨by omega, by omega, by omega, fun p q hq _ _ => ⟨by omega, by simp⟩⟩
theorem Best.pos {a b c d n m : Int} (ha : 0 < a) (hb : 0 < b) (h : Best a b c d n m) : 0 < n := by
 have := Int.mul_pos ha h.1
 have h1 := h.2.1
 by_cases hn : n ≤ 0
 · have := Int.mul_nonpos_of_nonpos_of_nonneg hn (show 0 ≤ b by omega); omega
 · omega
theorem Best.gcd {a b c d n m : Int} (hb : 0 < b) (hd : 0 < d) (h : Best a b c d n m) : Int.gcd n m = 1 := by
 obtain ⟨h0, h1, h2, h3⟩ := h
 have hg0 : 0 < Int.gcd n m := Int.gcd_pos_of_ne_zero_right n (by omega)
 obtain ⟨x, hx⟩ := Int.gcd_dvd_left n m
 obtain ⟨y, hy⟩ := Int.gcd_dvd_right n m
 generalize hG : (Int.gcd n m : Int) = g at *
 have hg : 0 < g := by omega
 have hy0 : 0 < y := by
   by_cases hy0 : 0 < y
   · exact hy0
   · have := Int.mul_nonpos_of_nonneg_of_nonpos (show 0 ≤ g by omega) (show y ≤ 0 by omega); omega
 have k := h3 x y hy0
   (Int.le_of_mul_le_mul_left (a := g) (by
     have e1 : g * (a * y) = a * m := by rw [hy, ← Int.mul_assoc, Int.mul_comm g a, Int.mul_assoc]
     have e2 : g * (x * b) = n * b := by rw [← Int.mul_assoc, ← hx]
     omega) hg)
   (Int.le_of_mul_le_mul_left (a := g) (by
     have e1 : g * (c * y) = c * m := by rw [hy, ← Int.mul_assoc, Int.mul_comm g c, Int.mul_assoc]
     have e2 : g * (x * d) = n * d := by rw [← Int.mul_assoc, ← hx]
     omega) hg)
 by_cases hg1 : g = 1
 · omega
 · exfalso
   have : 2 * y ≤ g * y := Int.mul_le_mul_of_nonneg_right (by omega) (by omega)
   omega
end
section
open Go Go.RowKit
def aggT (d : TypeDesc) : Prop := (match d with | .struct _ | .array _ _ => true | _ => false) = true
theorem run_load_part {w : World} {g : Nat} {t : TypeId} {cs : Array Value} (h : Blk w g t cs) (ty : TypeId) (d : TypeDesc) (hu : Try.prog.underlying ty = some d) (hd : aggT d) (off n : Nat) (hi : (Try.prog.info? ty).map (·.size) = some n) (hle : off + n ≤ cs.size) (ds : Array Value) (hds : cs.extract off (off + n) = ds) :
   (Instr.loadAt ty (.pointer (some ⟨g, off, none⟩))).run Try.prog w = .ok (.agg ds) w := by
 have hsz : ds.toList.length = n := by rw [← hds]; simp; omega
 have hl : (loadCells ⟨g, off, none⟩ ds.toList.length).run Try.prog w = .ok ds.toList.toArray w :=
   run_loadCells_list (P := Try.prog) w ⟨g, off, none⟩ ds.toList (fun j v hv => by
     have hadd : (⟨g, off, none⟩ : Addr).add j = ⟨g, off + j, none⟩ := by unfold Addr.add; split <;> simp_all
     rw [hadd, h.cell]
     have hj : j < n := by have := (List.getElem?_eq_some_iff.1 hv).1; omega
     rw [Array.getElem?_toList, ← hds, Array.getElem?_extract] at hv
     rw [if_pos (by omega)] at hv
     exact hv)
 cases hq : Try.prog.info? ty with
 | none => simp [hq] at hi
 | some i =>
   have hs : i.size = n := by simpa [hq] using hi
   have hagg : (isAgg ty).run Try.prog w = .ok true w := by
     unfold isAgg
     rw [Sem.run_bind, run_underlying hu w]
     unfold aggT at hd
     cases d <;> simp_all
   rw [hsz, Array.toArray_toList] at hl
   simp [Instr.loadAt, Instr.sureAddr, loadVar, Sem.run_bind, hagg, sizeOf, typeInfo, hq, hs, hl]
theorem run_store_part {w : World} {g : Nat} {t : TypeId} {cs : Array Value} (h : Blk w g t cs) (ty : TypeId) (off n : Nat) (hi : (Try.prog.info? ty).map (·.size) = some n) (hle : off + n ≤ cs.size) (ds : Array Value) (hds : ds.size = n) (h1 : ds.all (·.oneCell') = true) (es : Array Value) (hes : (cs.toList.take off ++ ds.toList ++ cs.toList.drop (off + n)).toArray = es) :
   (Instr.storeAt ty (.pointer (some ⟨g, off, none⟩)) (.agg ds)).run Try.prog w = .ok () (w.setRow g es) := by
 have := run_storeCells_at (P := Try.prog) g off t ds.toList 0 cs w h (by simp; omega) (fun v hv => (Array.all_eq_true_iff_forall_mem.1 h1) v (by simpa using hv))
 have hl : ds.toList.length = n := by simpa using hds
 rw [hl, Nat.add_zero, hes] at this
 cases hq : Try.prog.info? ty with
 | none => simp [hq] at hi
 | some i =>
   have hs : ds.size = i.size := by simp [hq] at hi; omega
   simp [Instr.storeAt, Instr.sureAddr, storeVar, sizeOf, typeInfo, hq, Value.cells, hs, this]
theorem wl_load {ops : Array Oper} {rest : List Oper} {o : Oper} {a : Act} {w : World} {Q : Exit → Act → World → Prop} {ty : TypeId} {x : Operand} {u v : Value} (hgd : Region.wanted o (yielded ops a.tmps) = true) (ho : o.op = .load ty x) (hx : a.eval x = u)
   (hr : (Instr.loadAt ty u).run Try.prog w = .ok v w) (h : wpList Try.prog ops Q rest (a.put o.dst v) w) : wpList Try.prog ops Q (o :: rest) a w :=
 wpList_step fun _ hK => by
   rw [if_pos hgd]
   unfold Oper.wp execOp
   simp only [ho, hx, Sem.run_bind, hr, Result.andThen_ok, Sem.run_pure]
   exact hK _ _ h
theorem wq_load {ops : Array Oper} {rest : List Oper} {o : Oper} {a : Act} {C : World → Prop} {Q : Act → Prop} {ty : TypeId} {x : Operand} {u v : Value} (hgd : Region.wanted o (yielded ops a.tmps) = true) (ho : o.op = .load ty x) (hx : a.eval x = u)
   (hr : ∀ w, C w → (Instr.loadAt ty u).run Try.prog w = .ok v w) (h : wpQuiet Try.prog ops C Q rest (a.put o.dst v)) : wpQuiet Try.prog ops C Q (o :: rest) a :=
 wpQuiet_step fun K hK => by
   rw [if_pos hgd]
   refine ⟨v, fun w hw => ?_, hK _ h⟩
   unfold Oper.quietAt execOp
   simp only [ho, hx, Sem.run_bind, hr w hw, Result.andThen_ok, Sem.run_pure]
   exact ⟨rfl, rfl⟩
theorem wpList_of_quiet {ops : Array Oper} {C : World → Prop} {Q : Act → Prop} {R : Exit → Act → World → Prop} (hQ : ∀ a w, C w → Q a → R .normal a w) : ∀ (l : List Oper) (a : Act) (w : World), C w → wpQuiet Try.prog ops C Q l a → wpList Try.prog ops R l a w
 | [], a, w, hC, h => hQ a w hC h
 | o :: rest, a, w, hC, h => wpList_step fun K hK => by
   unfold wpQuiet at h
   split
   · rename_i hw
     rw [if_pos hw] at h
     exact Oper.wp_of_quiet hC (fun a w' hc k => hK _ _ (wpList_of_quiet hQ rest a w' hc k)) h
   · rename_i hw
     rw [if_neg hw] at h
     exact hK _ _ (wpList_of_quiet hQ rest _ w hC h)
theorem wp_region_reads {id : Nat} {Q : Exit → Act → World → Prop} {a : Act} {w : World} {l : List Oper}
   (h : wpQuiet Try.prog l.toArray (fun w' => ∃ p : Regrown, w' = Go.Sort.grow (redrawn w p.d) p.os) (fun a' => ∀ w', (∃ p : Regrown, w' = Go.Sort.grow (redrawn w p.d) p.os) → Q .normal a' w') l a) : (Code.region id l.toArray false).wp Try.prog Q a w :=
 wp_region_lit (wpList_of_quiet (fun a w hC h => h w hC) l a w ⟨⟨w.drawn, #[]⟩, by rw [Go.Sort.grow_empty]; rfl⟩ h)
theorem alloc_size (w : World) (o : Obj) : (w.alloc o).heap.size = w.heap.size + 1 := Array.size_push ..
theorem ld_all {w : World} {g : Nat} {t ty : TypeId} {X : Array Value} {n : Nat} {d : TypeDesc} (h : Blk w g t X) (hu : Try.prog.underlying ty = some d) (hd : aggT d) (hi : (Try.prog.info? ty).map (·.size) = some n) (hn : X.size = n) : (Instr.loadAt ty (.pointer (some ⟨g, 0, none⟩))).run Try.prog w = .ok (.agg X) w :=
 run_load_part h _ _ hu hd 0 n hi (by omega) _ (by rw [Nat.zero_add, ← hn]; simp)
end
end Go.Proofs.Ytlfmeiejocpnfaa
