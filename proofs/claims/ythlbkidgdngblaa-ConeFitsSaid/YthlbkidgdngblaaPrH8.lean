/- Part 8 of what these claims stand on: contracts of the program's and the reference's functions, and plain facts. Conditions: each states its own. -/
import Derived.Test.YthlbkidgdngblaaPrH7
namespace Go.Proofs.Ythlbkidgdngblaa
set_option linter.unusedVariables false
set_option linter.unusedSimpArgs false
section
open Go Go.RowKit Go.Sort
attribute [local go_sem] qUpon eUpon putE slE
theorem ediv_abs {x D : Int} (h : 0 < D) : (x / D).natAbs ≤ x.natAbs := by
 have h1 : x / D * D ≤ x := Int.ediv_mul_le x (by omega)
 have h2 : x < (x / D + 1) * D := Int.lt_ediv_add_one_mul_self x h
 obtain ⟨q, hq⟩ : ∃ q, x / D = q := ⟨_, rfl⟩
 rw [hq] at h1 h2 ⊢
 by_cases h0 : 0 ≤ q
 · have : q * 1 ≤ q * D := Int.mul_le_mul_of_nonneg_left (by omega) h0
   omega
 · have : (q + 1) * D ≤ (q + 1) * 1 := Int.mul_le_mul_of_nonpos_left (by omega) (by omega)
   omega
theorem mul_abs13 {a b : Int} {A B : Nat} (ha : a.natAbs < A) (hb : b.natAbs < B) : (a * b).natAbs < A * B := by
 rw [Int.natAbs_mul]
 exact Nat.mul_lt_mul'' ha hb
theorem fits_range {base v eps n m : Int} {d : Nat} (hb : I64 base) (hv : I64 v) (he : Tol eps) (hd : 0 < d) (hd2 : d < 18446744073709551616) (hf : Frac n m) :
   F256 (n * (d : Int)) ∧ F256 (v - base) ∧ F256 ((v - base) * m) ∧ F256 (n * (d : Int) - (v - base) * m) ∧ F256 (eps * m) ∧ F256 (base + ((n + n) * (d : Int) + m) / (m + m)) ∧ F256 (base + ((n + n) * (d : Int) + m) / (m + m) - v) ∧ F256 (((n + n) * (d : Int) + m) / (m + m)) := by
 obtain ⟨hm, hn, hm2, _⟩ := hf
 obtain ⟨b1, b2⟩ := hb
 obtain ⟨v1, v2⟩ := hv
 obtain ⟨e1, e2⟩ := he
 have h1 := mul_abs13 (a := n) (b := (d : Int)) (B := 18446744073709551616) hn (by omega)
 have h2 := mul_abs13 (a := v - base) (b := m) (A := 18446744073709551616) (by omega) hm2
 have h3 := mul_abs13 (a := eps) (b := m) (A := 18446744073709551616) (by omega) hm2
 have h4 := mul_abs13 (a := n + n) (b := (d : Int)) (A := 340282366920938463463374607431768211456) (B := 18446744073709551616) (by omega) (by omega)
 have h5 := ediv_abs (x := (n + n) * (d : Int) + m) (D := m + m) (by omega)
 obtain ⟨p1, q1⟩ : ∃ p, n * (d : Int) = p := ⟨_, rfl⟩
 obtain ⟨p2, q2⟩ : ∃ p, (v - base) * m = p := ⟨_, rfl⟩
 obtain ⟨p3, q3⟩ : ∃ p, eps * m = p := ⟨_, rfl⟩
 obtain ⟨p4, q4⟩ : ∃ p, (n + n) * (d : Int) = p := ⟨_, rfl⟩
 rw [q4] at h4 h5 ⊢
 obtain ⟨p5, q5⟩ : ∃ p, (p4 + m) / (m + m) = p := ⟨_, rfl⟩
 rw [q5] at h5 ⊢
 rw [q1] at h1 ⊢
 rw [q2] at h2 ⊢
 rw [q3] at h3 ⊢
 unfold F256
 refine ⟨?_, ?_, ?_, ?_, ?_, ?_, ?_, ?_⟩ <;> omega
theorem frC_num (n m : Int) : (frC (n, m)).extract 0 (0 + 5) = wC n := by kernel_rfl
theorem frC_den (n m : Int) : (frC (n, m)).extract 5 (5 + 5) = wC m := by kernel_rfl
structure FitK (C S Nm Dn Ud Vv Bb Ee N1 D1 D2 N2 N3 M1 Q1 R1 R2 R3 : Array Value) (v base eps : Int) (d : Nat) (rc r2 : Int) (fits nb1 nb2 : Bool) : Prop where
 k1 : ∀ w, Calls Try.prog 21 #[.int .u64 (d : Int)] w (Ret (.agg Ud) w)
 k2 : ∀ w, Calls Try.prog 20 #[.agg Nm, .agg Ud] w (Ret (.tuple #[.agg N1, .bool true]) w)
 k3 : ∀ w, Calls Try.prog 16 #[.int .i64 v] w (Ret (.agg Vv) w)
 k4 : ∀ w, Calls Try.prog 16 #[.int .i64 base] w (Ret (.agg Bb) w)
 k5 : ∀ w, Calls Try.prog 22 #[.agg Vv, .agg Bb] w (Ret (.tuple #[.agg D1, .bool true]) w)
 k6 : ∀ w, Calls Try.prog 20 #[.agg D1, .agg Dn] w (Ret (.tuple #[.agg D2, .bool true]) w)
 k7 : ∀ w, Calls Try.prog 22 #[.agg N1, .agg D2] w (Ret (.tuple #[.agg N2, .bool true]) w)
 k8 : ∀ w, Calls Try.prog 16 #[.int .i64 eps] w (Ret (.agg Ee) w)
 k9 : ∀ w, Calls Try.prog 20 #[.agg Ee, .agg Dn] w (Ret (.tuple #[.agg M1, .bool true]) w)
 k10 : ∀ w, Calls Try.prog 23 #[.agg N3, .agg M1] w (Ret (.int .i64 rc) w)
 k11 : ∀ w, Calls Try.prog 24 #[.agg C, .agg S] w (Ret (.bool fits) w)
 k12 : ∀ w, Calls Try.prog 26 #[.agg S, .int .u64 (d : Int)] w (Ret (.agg Q1) w)
 k13 : ∀ w, Calls Try.prog 25 #[.agg Bb, .agg Q1] w (Ret (.tuple #[.agg R1, .bool true]) w)
 k14 : ∀ w, Calls Try.prog 22 #[.agg R1, .agg Vv] w (Ret (.tuple #[.agg R2, .bool true]) w)
 k15 : ∀ w, Calls Try.prog 23 #[.agg R3, .agg Ee] w (Ret (.int .i64 r2) w)
 hf : decide (rc ≤ 0) = fits
 hr : fits = true → decide (0 < r2) = false
 n0 : N2[0]? = some (.bool nb1)
 n1 : N2.setIfInBounds 0 (.bool false) = N3
 m0 : R2[0]? = some (.bool nb2)
 m1 : R2.setIfInBounds 0 (.bool false) = R3
 f0 : S.extract 0 (0 + 5) = Nm
 f1 : S.extract 5 (5 + 5) = Dn
 sS : S.size = 10
 oS : S.all (·.oneCell') = true
 sz : ∀ Y ∈ [Nm, Dn, N1, D1, D2, N2, N3, M1, R1, R2, R3], Y.size = 5 ∧ Y.all (·.oneCell') = true
theorem fitK {base v eps : Int} {d : Nat} (hb : I64 base) (hv : I64 v) (he : Tol eps) (hd : 0 < d) (hd2 : d < 18446744073709551616) {f : Fr} (hf : okF f) : ∃ (Nm Dn Ud Vv Bb Ee N1 D1 D2 N2 N3 M1 Q1 R1 R2 R3 : Array Value) (rc r2 : Int) (fits nb1 nb2 : Bool), FitK (cnC (thruC base v eps d)) (frC f) Nm Dn Ud Vv Bb Ee N1 D1 D2 N2 N3 M1 Q1 R1 R2 R3 v base eps d rc r2 fits nb1 nb2 := by
 obtain ⟨n, m⟩ := f
 have hf' : Frac n m := hf
 obtain ⟨g1, g2, g3, g4, g5, g6, g7, g8⟩ := fits_range hb hv he hd hd2 hf'
 have hV : F256 v := by have h1 := hv.1; have h2 := hv.2; unfold F256; omega
 have hB : F256 base := by have h1 := hb.1; have h2 := hb.2; unfold F256; omega
 have hE : F256 eps := by have h1 := he.1; have h2 := he.2; unfold F256; omega
 have hD : F256 (d : Int) := by unfold F256; omega
 have hok := thru_ok (base := base) (v := v) (eps := eps) (dt := (d : Int)) (by have h1 := hb.1; have h2 := hb.2; omega) hv.1 hv.2 he.1 he.2 (by omega) (by omega)
 have hin := thru_in (base := base) (v := v) (eps := eps) (dt := (d : Int)) (by omega) (n, m)
 have hat := thru_at (base := base) (v := v) (eps := eps) (dt := (d : Int)) (n := n) (d := m) hf'.1
 obtain ⟨z3, hz3⟩ : ∃ z, n * (d : Int) - (v - base) * m = z := ⟨_, rfl⟩
 obtain ⟨qq, hqq⟩ : ∃ z, ((n + n) * (d : Int) + m) / (m + m) = z := ⟨_, rfl⟩
 simp only at hin
 rw [hz3] at g4 hin hat
 rw [hqq] at g6 g7 g8 hat
 obtain ⟨rc, hrc⟩ : ∃ r, cmpI (z3.natAbs : Int) (eps * m) = r := ⟨_, rfl⟩
 obtain ⟨r2, hr2⟩ : ∃ r, cmpI ((base + qq - v).natAbs : Int) eps = r := ⟨_, rfl⟩
 have l1 := cmpI_lt hrc
 have l2 := cmpI_lt hr2
 have e1 : decide (rc ≤ 0) = decide (inC (thruC base v eps d) (n, m)) := by
   by_cases h : inC (thruC base v eps d) (n, m)
   · rw [decide_eq_true h, decide_eq_true (by have := hin.1 h; omega)]
   · rw [decide_eq_false h, decide_eq_false (fun h2 => h (hin.2 (by omega)))]
 refine ⟨wC n, wC m, wC (d : Int), wC v, wC base, wC eps, wC (n * (d : Int)), wC (v - base), wC ((v - base) * m), wC z3, wC (z3.natAbs : Int), wC (eps * m), wC qq, wC (base + qq), wC (base + qq - v), wC ((base + qq - v).natAbs : Int), rc, r2, decide (inC (thruC base v eps d) (n, m)), sg z3, sg (base + qq - v), ?_⟩
 exact ⟨fun w => d_ofu hd2 w, fun w => d_mul hf'.fn hD rfl g1 w, fun w => d_ofi hv.1 hv.2 w, fun w => d_ofi hb.1 hb.2 w, fun w => d_sub hV hB rfl g2 w, fun w => d_mul g2 hf'.fd rfl g3 w, fun w => d_sub g1 g3 hz3 g4 w, fun w => d_ofi (by have := he.1; omega) (by have := he.2; omega) w, fun w => d_mul hE hf'.fd rfl g5 w, fun w => d_cmp (by unfold F256 at *; omega) g5 hrc w, p_con _ (n, m) hok hf, fun w => h_at hf' hd2 hqq w, fun w => d_add hB g8 rfl g6 w, fun w => d_sub g6 hV rfl g7 w, fun w => d_cmp (by unfold F256 at *; omega) hE hr2 w, e1, fun h => decide_eq_false (by have := hat (hin.1 (of_decide_eq_true h)); omega), rfl, wC_abs _, rfl, wC_abs _, frC_num n m, frC_den n m, (frC_rc _).size, (frC_rc _).one, by
   intro Y hY
   simp only [List.mem_cons, List.not_mem_nil, or_false] at hY
   rcases hY with rfl | rfl | rfl | rfl | rfl | rfl | rfl | rfl | rfl | rfl | rfl <;> exact ⟨rfl, wC_one _⟩⟩
set_option maxHeartbeats 12800000 in
set_option maxRecDepth 100000 in
theorem law_cfits (x : Option Addr) (len cap : Nat) (W : World) (hL : IsList W x len cap) : Calls Try.prog 4 #[.slice x len cap] W (BoolRet true W) := by
 have HL := hide hL
 have kK : Hid (∀ w, Calls Try.prog 12 #[] w (Ret (.bool true) w)) := fun w => l_known13p w
 have i63 : I64 63 := ⟨by omega, by omega⟩
 clear hL
 have EE : Hid (Ext W W) := Ext.refl _
 go_enter Try.func4, Try.ntmps4
 go_upto_region 1 with fail
 go_upto_region 2 with (go_at_call 7; (with_reducible refine (t_new W x len cap HL.out).mono ?_); rintro e w1 ⟨rfl, T0, hB⟩)
 obtain ⟨b, hb⟩ : ∃ b, W.heap.size = b := ⟨_, rfl⟩
 have HB := hide hb
 rw [hb] at T0 hB
 replace EE : Hid (Ext W w1) := by rw [← hb] at hB; exact hB
 rw [hb]
 have hBw : b ≤ w1.heap.size := by have := T0.2.1; omega
 clear hb hB
 have tk0 := trivial
 have tk1 := trivial
 go_upto_region 3 with (first
   | (clear tk0; go_at_call 14; (with_reducible refine (t_int b b _ _ T0 (Upd.refl _ _)).mono ?_); rintro e w2 ⟨base, rfl, hv, hT2, hU2⟩; have T2 := hide hT2; have U2 := hide (hU2); have hb := hide hv; clear hv hT2 hU2)
   | (clear tk1; go_at_call 14; (with_reducible refine (t_int b b _ _ T2.out (Upd.refl _ _)).mono ?_); rintro e w3 ⟨v, rfl, hv, hT2, hU2⟩; have T3 := hide hT2; have U3 := hide (U2.out.trans hU2); have hv1 := hide hv; clear hv hT2 hU2)
   | (go_at_call 15; (with_reducible refine (t_tol b b _ _ T3.out (Upd.refl _ _)).mono ?_); rintro e w4 ⟨eps, rfl, hv, hT2, hU2⟩; have T4 := hide hT2; have U4 := hide (U3.out.trans hU2); have he := hide hv; clear hv hT2 hU2)
   | (go_at_call 8; (with_reducible refine (t_word b b _ T4.out).mono ?_); rintro e w5 ⟨u, rfl, hv, hT2, hU2⟩; have T5 := hide hT2; have U5 := hide (U4.out.trans hU2); obtain ⟨xw, rfl⟩ := Int.eq_ofNat_of_zero_le hv.1; have hxw : xw < 18446744073709551616 := (by have := hv.2; omega); clear hv hT2 hU2)
   | (go_at_call 9; (with_reducible refine (t_next b b 63 _ i63 T5.out).mono ?_); rintro e w6 ⟨u, rfl, hv, hT2, hU2⟩; have T6 := hide hT2; have U6 := hide (U5.out.trans hU2); obtain ⟨y, rfl⟩ := Int.eq_ofNat_of_zero_le hv.1; have hy : y < 63 := (by have := hv.2.1 (by omega); omega); obtain ⟨q, hq⟩ : ∃ q : Nat, 1 + y = q := ⟨_, rfl⟩; have eq1 : (1 : Int) + (y : Int) = (q : Int) := (by omega); have hr := shr_le' (q := q) (k := 1) hxw (by omega); have e1 := shr_cast' xw q; obtain ⟨r, hrr⟩ : ∃ r, xw >>> q = r := ⟨_, rfl⟩; rw [hrr] at e1 hr; have hr2 : r ≤ 9223372036854775807 := (Nat.le_trans hr (by decide)); obtain ⟨d, hd⟩ : ∃ d, 1 + r = d := ⟨_, rfl⟩; have e2 : IntKind.u64.wrap ((1 : Int) + (r : Int)) = (d : Int) := (by rw [wrap_u64']; omega); have hq2 : q ≤ 64 := (by omega); have hd1 : 0 < d := (by omega); have hd2 : d < 18446744073709551616 := (by omega); clear hq hr hrr; clear hv hT2 hU2))
 have hok := thru_ok (base := base) (v := v) (eps := eps) (dt := (d : Int)) (by have h1 := hb.out.1; have h2 := hb.out.2; omega) hv1.out.1 hv1.out.2 he.out.1 he.out.2 (by omega) (by omega)
 have hg : ThrGood base eps d := ⟨by have h1 := hb.out.1; have h2 := hb.out.2; omega, he.out.1, he.out.2, hd1⟩
 have kO : Hid (∀ w, Calls Try.prog 16 #[.int .i64 base] w (Ret (.agg (wC base)) w)) := fun w => d_ofi hb.out.1 hb.out.2 w
 have kT := p_thr base v eps d (by have h1 := hb.out.1; have h2 := hb.out.2; unfold F256; omega) hv1.out.1 hv1.out.2 (by have := he.out.1; omega) (by have := he.out.2; omega) hd2
 rw [show thrC base v eps d = cnC (thruC base v eps d) from if_pos hg, decide_eq_true hg] at kT
 replace kT := hide kT
 have HF := hide (fun (f : Fr) (hf : okF f) => fitK hb.out hv1.out he.out hd1 hd2 hf)
 obtain ⟨f0, f1, hcc⟩ : ∃ f0 f1, thruC base v eps d = .cl f0 f1 := ⟨_, _, rfl⟩
 have hf0 : okF f0 := by rw [hcc] at hok; exact hok.1
 have hf1 : okF f1 := by rw [hcc] at hok; exact hok.2.1
 obtain ⟨s4, hs4, kC⟩ := p_cho _ hok
 have hf4 := (choose_in hok hs4).2
 replace kC := hide kC
 have fL := coneC_lo false (frC_rc f0).size (frC_rc f1).size
 have fH := coneC_hi false (frC_rc f0).size (frC_rc f1).size
 have sC := cnC_size (thruC base v eps d)
 have oC := cnC_one (thruC base v eps d)
 have hce : cnC (thruC base v eps d) = coneC false (frC f0) (frC f1) := by rw [hcc]; rfl
 rw [← hce] at fL fH
 obtain ⟨C, hC⟩ : ∃ C, cnC (thruC base v eps d) = C := ⟨_, rfl⟩
 rw [hC] at kT kC sC oC fL fH HF
 clear hC hce hcc hs4 hok hg
 have hs : Hid (okF f0 ∧ okF f1 ∧ okF s4) := hide ⟨hf0, hf1, hf4⟩
 have r0 : RC (frC f0) := frC_rc _
 have r1 : RC (frC f1) := frC_rc _
 have r4 : RC (frC s4) := frC_rc _
 clear hf0 hf1 hf4
 have T0 := T6.out
 have UU := U6
 clear T2 T3 T4 T5 T6 U2 U3 U4 U5 U6 e1 e2 eq1 hq2 hy hxw hr2
 refine wp_evsA [.q, .q, .q, .q, .q, .q, .q, .q, .q, .al, .st 9, .q] [0, 0, 0, 0, 0, 0, 0, 0, 0, 0, 0, 0] (fun R => [.int .i64 base, .agg (wC base), .int .i64 v, .int .i64 eps, .int .u64 (d : Int), .tuple #[.agg C, .bool true], .tuple #[.agg C, .bool true], .agg C, .bool true, undef, undef, .bool true]) (fun _ => (.cells z21 42 (0, 0))) (fun R _ => (.cells C 42 (0, 0))) (fun _ => 0) (TE b b w1 (XA [])) (fun k => k = b) _ (fun R G => { tmps := #[.slice x len cap, undef, .bool false, .pointer (some ⟨b, 0, none⟩), .int .i64 base, .int .i64 v, .int .i64 eps, .int .u64 (d : Int), .pointer (some ⟨G 9, 0, none⟩), .bool true, undef, undef, undef, undef, undef, undef, undef, undef, undef, undef, undef, undef, .slice x len cap, .pointer (some ⟨b, 0, none⟩), .pointer (some ⟨b, 0, none⟩), .int .i64 base, .pointer (some ⟨b, 0, none⟩), .int .i64 v, .pointer (some ⟨b, 0, none⟩), .int .i64 eps, .pointer (some ⟨b, 0, none⟩), .int .u64 (xw : Int), .pointer (some ⟨b, 0, none⟩), .int .i64 (y : Int), .int .i64 (q : Int), .int .u64 (q : Int), .int .u64 (r : Int), .int .u64 (d : Int), .tuple #[.agg C, .bool true], .int .i64 base, .agg (wC base), .int .i64 v, .int .i64 eps, .int .u64 (d : Int), .tuple #[.agg C, .bool true], .agg C, .bool true, undef, undef, undef, undef, undef, undef, undef, undef, undef, undef, undef, undef, undef, undef, undef, undef, undef, undef, undef, undef, undef, undef, undef, undef, undef, undef, undef, undef, undef, undef, undef, undef, undef, undef, undef, undef, undef, undef, undef, undef, undef, undef, undef, undef, undef, undef, undef, undef, undef, undef, undef, undef, undef, undef, undef, undef, undef, undef, undef, undef, undef, undef, undef, undef, undef, undef, undef, undef, undef, undef, undef, undef, undef, undef, undef, undef, undef, undef, undef, undef, undef, undef, undef, undef, undef, undef, undef, undef, undef, undef, undef, undef, undef, undef], defers := [] }) (by intro R G; kernel_rfl) (fun _ => rfl) (by kernel_rfl) (by kernel_rfl) (by kernel_rfl) rfl (fun _ => rfl) (fun k e => by subst e; exact T0.2.1) (by simp) (by simp) (by simp) (fun R R' => ⟨fun _ => rfl, fun _ => rfl, fun _ => rfl, fun _ => rfl, fun _ => rfl, fun _ => rfl, fun _ => rfl, fun _ => rfl, fun _ => rfl, fun _ => rfl, fun _ => rfl, fun _ => rfl, trivial⟩) (fun _ _ _ _ => rfl) te_below ⟨T0, UU.out, XA.zero⟩ ?ops12 ?end12
 case ops12 =>
   refine ⟨?_, ?_, ?_, ?_, ?_, ?_, ?_, ?_, ?_, ?_, ?_, ?_, trivial⟩
   · refine er_q ?vn1 ?hn1 ?kn1 ?gn1 ?_
     case hn1 => exact rfl
     case vn1 => exact (fun R => .int .i64 base)
     case kn1 => exact (fun R => rfl)
     case gn1 => exact gd_none rfl
     intro R s w' hT hs hw ha
     go_simp
   · refine er_q ?vn2 ?hn2 ?kn2 ?gn2 ?_
     case hn2 => exact rfl
     case vn2 => exact (fun R => .agg (wC base))
     case kn2 => exact (fun R => rfl)
     case gn2 => exact gd_none rfl
     intro R s w' hT hs hw ha
     go_simp
     exact kO.out w'
   · refine er_q ?vn3 ?hn3 ?kn3 ?gn3 ?_
     case hn3 => exact rfl
     case vn3 => exact (fun R => .int .i64 v)
     case kn3 => exact (fun R => rfl)
     case gn3 => exact gd_none rfl
     intro R s w' hT hs hw ha
     go_simp
   · refine er_q ?vn4 ?hn4 ?kn4 ?gn4 ?_
     case hn4 => exact rfl
     case vn4 => exact (fun R => .int .i64 eps)
     case kn4 => exact (fun R => rfl)
     case gn4 => exact gd_none rfl
     intro R s w' hT hs hw ha
     go_simp
   · refine er_q ?vn5 ?hn5 ?kn5 ?gn5 ?_
     case hn5 => exact rfl
     case vn5 => exact (fun R => .int .u64 (d : Int))
     case kn5 => exact (fun R => rfl)
     case gn5 => exact gd_none rfl
     intro R s w' hT hs hw ha
     go_simp
   · refine er_q ?vn6 ?hn6 ?kn6 ?gn6 ?_
     case hn6 => exact rfl
     case vn6 => exact (fun R => .tuple #[.agg C, .bool true])
     case kn6 => exact (fun R => rfl)
     case gn6 => exact gd_none rfl
     intro R s w' hT hs hw ha
     go_simp
     exact kT.out w'
   · refine er_q ?vn7 ?hn7 ?kn7 ?gn7 ?_
     case hn7 => exact rfl
     case vn7 => exact (fun R => .tuple #[.agg C, .bool true])
     case kn7 => exact (fun R => rfl)
     case gn7 => exact gd_none rfl
     intro R s w' hT hs hw ha
     go_simp
   · refine er_q ?vn8 ?hn8 ?kn8 ?gn8 ?_
     case hn8 => exact rfl
     case vn8 => exact (fun R => .agg C)
     case kn8 => exact (fun R => rfl)
     case gn8 => exact gd_none rfl
     intro R s w' hT hs hw ha
     go_simp
   · refine er_q ?vn9 ?hn9 ?kn9 ?gn9 ?_
     case hn9 => exact rfl
     case vn9 => exact (fun R => .bool true)
     case kn9 => exact (fun R => rfl)
     case gn9 => exact gd_none rfl
     intro R s w' hT hs hw ha
     go_simp
   · refine er_al ?zn10 ?hn10 ?kn10 ?gn10 ?_
     case zn10 => exact (.cells z21 42 (0, 0))
     case hn10 => exact rfl
     case kn10 => exact rfl
     case gn10 => exact gd_none rfl
     intro ρ w'
     go_simp
     exact ⟨rfl, rfl⟩
   · refine er_st (j := 9) (Ty := ?Tn11) (p := ?pn11) (x := ?xn11) ?fn11 ?zn11 ?vn11 ?hn11 ?on11 ?kn11 ?ln11 ?gn11 ?en11 ?_
     case hn11 => exact rfl
     case on11 => exact rfl
     case fn11 => exact (fun R => (.cells C 42 (0, 0)))
     case zn11 => exact (.cells z21 42 (0, 0))
     case vn11 => exact (fun R => .agg C)
     case kn11 => exact (fun R => rfl)
     case ln11 => exact rfl
     case gn11 => exact gd_none rfl
     case en11 =>
       intro R
       kernel_rfl
     intro R s ρ w g hT hs hp hx hg hz
     exact ⟨store_row rfl hp hx hz iCone (sC) (oC), fun w1 hF => te_filled hT hF (Nat.le_trans UU.out.2.2.2.1 hg) (by have := T0.2.1; omega) (by have := T0.1; have := T0.2.1; omega)⟩
   · refine er_q ?vn12 ?hn12 ?kn12 ?gn12 ?_
     case hn12 => exact rfl
     case vn12 => exact (fun R => .bool true)
     case kn12 => exact (fun R => rfl)
     case gn12 => exact gd_none rfl
     intro R s w' hT hs hw ha
     go_simp
 case end12 =>
  intro sI R G w13 hI FF hFF
  have hS := hI.same
  have hTT := hI.holds
  have hz0 := UU.out.2.2.2.1
  have P8 : Blk w13 (G 9) 42 C := (hI.fulls 10 (List.mem_range.2 (show 10 < 12 by decide)) 9 rfl).2.2
  have hmP8 := (hI.made 9 (List.mem_range.2 (show 9 < 12 by decide)) rfl).1
  have P8_lo : w1.heap.size ≤ G 9 := Nat.le_trans hz0 hmP8
  have P8_nb : G 9 ≠ b := by have := T0.2.1; omega
  replace T0 := hTT.1
  replace UU := hide hTT.2.1
  clear hS hz0 hTT hI 
  dsimp only at hFF
  subst hFF
  generalize G 9 = g8 at *
  go_upto_region 4 with fail
  have P8_lt := P8.lt
  refine wp_evsA [.q, .q] [0, 0] (fun R => [.bool true, .bool false]) (fun _ => (.cells #[] 0 (0, 0))) (fun R _ => (.cells #[] 0 (0, 0))) (fun _ => 0) (TE b b w1 (XA [])) (fun k => k = b) _ (fun R G => { tmps := #[.slice x len cap, undef, .bool false, .pointer (some ⟨b, 0, none⟩), .int .i64 base, .int .i64 v, .int .i64 eps, .int .u64 (d : Int), .pointer (some ⟨g8, 0, none⟩), .bool true, undef, undef, undef, undef, undef, undef, undef, undef, undef, undef, undef, undef, .slice x len cap, .pointer (some ⟨b, 0, none⟩), .pointer (some ⟨b, 0, none⟩), .int .i64 base, .pointer (some ⟨b, 0, none⟩), .int .i64 v, .pointer (some ⟨b, 0, none⟩), .int .i64 eps, .pointer (some ⟨b, 0, none⟩), .int .u64 (xw : Int), .pointer (some ⟨b, 0, none⟩), .int .i64 (y : Int), .int .i64 (q : Int), .int .u64 (q : Int), .int .u64 (r : Int), .int .u64 (d : Int), .tuple #[.agg C, .bool true], .int .i64 base, .agg (wC base), .int .i64 v, .int .i64 eps, .int .u64 (d : Int), .tuple #[.agg C, .bool true], .agg C, .bool true, .bool true, .bool false, undef, undef, undef, undef, undef, undef, undef, undef, undef, undef, undef, undef, undef, undef, undef, undef, undef, undef, undef, undef, undef, undef, undef, undef, undef, undef, undef, undef, undef, undef, undef, undef, undef, undef, undef, undef, undef, undef, undef, undef, undef, undef, undef, undef, undef, undef, undef, undef, undef, undef, undef, undef, undef, undef, undef, undef, undef, undef, undef, undef, undef, undef, undef, undef, undef, undef, undef, undef, undef, undef, undef, undef, undef, undef, undef, undef, undef, undef, undef, undef, undef, undef, undef, undef, undef, undef, undef, undef, undef, undef, undef, undef], defers := [] }) (by intro R G; kernel_rfl) (fun _ => rfl) (by kernel_rfl) (by kernel_rfl) (by kernel_rfl) rfl (fun _ => rfl) (fun k e => by subst e; exact T0.2.1) (by simp) (by simp) (by simp) (fun R R' => ⟨fun _ => rfl, fun _ => rfl, trivial⟩) (fun _ _ _ _ => rfl) te_below ⟨T0, UU.out, XA.zero⟩ ?ops15 ?end15
  case ops15 =>
    refine ⟨?_, ?_, trivial⟩
    · refine er_q ?vn14 ?hn14 ?kn14 ?gn14 ?_
      case hn14 => exact rfl
      case vn14 => exact (fun R => .bool true)
      case kn14 => exact (fun R => rfl)
      case gn14 => exact gd_none rfl
      intro R s w' hT hs hw ha
      go_simp
    · refine er_q ?vn15 ?hn15 ?kn15 ?gn15 ?_
      case hn15 => exact rfl
      case vn15 => exact (fun R => .bool false)
      case kn15 => exact (fun R => rfl)
      case gn15 => exact gd_none rfl
      intro R s w' hT hs hw ha
      go_simp
  case end15 =>
   intro sI R G w16 hI FF hFF
   have hS := hI.same
   have hTT := hI.holds
   have hz0 := UU.out.2.2.2.1
   replace P8 := P8.sameE hS P8_nb (by simp)
   replace T0 := hTT.1
   replace UU := hide hTT.2.1
   clear hS hz0 hTT hI P8_lt
   dsimp only at hFF
   subst hFF
   go_upto_region 6 with fail
   obtain ⟨rowf, hrf⟩ : ∃ f : (Nat → Value) → Array Value, (fun R => frC f0 ++ frC f1 ++ frC s4 ++ rowV (R 0)) = f := ⟨_, rfl⟩
   have hrf := hide hrf
   have P8_lt := P8.lt
   refine wp_evA [.q, .q, .q, .q, .q, .q, .q, .ev 0, .ev 1, .q] [0, 0, 0, 0, 0, 0, 0, 0, 1, 2] (fun R => [.pointer (some ⟨g8, 1, none⟩), .agg (frC f0), .pointer (some ⟨g8, 11, none⟩), .agg (frC f1), .agg C, .agg (frC s4), .pointer (some ⟨b, 0, none⟩), undef, undef, (R 1)]) (fun _ => (.cells #[] 0 (0, 0))) (fun R _ => (.cells #[] 0 (0, 0))) (fun _ => 0) (TS b b w1 [IsFr] 1 4 40 rowf) (fun k => k = b) _ (fun R G => { tmps := #[.slice x len cap, undef, .bool false, .pointer (some ⟨b, 0, none⟩), .int .i64 base, .int .i64 v, .int .i64 eps, .int .u64 (d : Int), .pointer (some ⟨g8, 0, none⟩), .bool true, (R 1), undef, undef, undef, undef, undef, undef, undef, undef, undef, undef, undef, .slice x len cap, .pointer (some ⟨b, 0, none⟩), .pointer (some ⟨b, 0, none⟩), .int .i64 base, .pointer (some ⟨b, 0, none⟩), .int .i64 v, .pointer (some ⟨b, 0, none⟩), .int .i64 eps, .pointer (some ⟨b, 0, none⟩), .int .u64 (xw : Int), .pointer (some ⟨b, 0, none⟩), .int .i64 (y : Int), .int .i64 (q : Int), .int .u64 (q : Int), .int .u64 (r : Int), .int .u64 (d : Int), .tuple #[.agg C, .bool true], .int .i64 base, .agg (wC base), .int .i64 v, .int .i64 eps, .int .u64 (d : Int), .tuple #[.agg C, .bool true], .agg C, .bool true, .bool true, .bool false, .pointer (some ⟨g8, 1, none⟩), .agg (frC f0), .pointer (some ⟨g8, 11, none⟩), .agg (frC f1), .agg C, .agg (frC s4), .pointer (some ⟨b, 0, none⟩), (R 0), (R 1), undef, undef, undef, undef, undef, undef, undef, undef, undef, undef, undef, undef, undef, undef, undef, undef, undef, undef, undef, undef, undef, undef, undef, undef, undef, undef, undef, undef, undef, undef, undef, undef, undef, undef, undef, undef, undef, undef, undef, undef, undef, undef, undef, undef, undef, undef, undef, undef, undef, undef, undef, undef, undef, undef, undef, undef, undef, undef, undef, undef, undef, undef, undef, undef, undef, undef, undef, undef, undef, undef, undef, undef, undef, undef, undef, undef, undef, undef, undef, undef, undef, undef, undef], defers := [] }) (by intro R G; kernel_rfl) (fun _ => rfl) (by kernel_rfl) (by kernel_rfl) (by kernel_rfl) (by kernel_rfl) rfl (fun _ => rfl) (fun k e => by subst e; exact T0.2.1) (by simp) (by simp) (by simp) (fun R R' => ⟨fun _ => rfl, fun _ => rfl, fun _ => rfl, fun _ => rfl, fun _ => rfl, fun _ => rfl, fun _ => rfl, fun _ => rfl, fun _ => rfl, fun h => by simp only [h 1 (by decide)], trivial⟩) (fun _ _ _ _ => rfl) ts_below ⟨⟨T0.ext (ext_drew _), UU.out.drew, XA.zero⟩, fun h => absurd h (by decide)⟩ ?ops26 ?end26
   case ops26 =>
     refine ⟨?_, ?_, ?_, ?_, ?_, ?_, ?_, ?_, ?_, ?_, trivial⟩
     · refine er_q ?vn17 ?hn17 ?kn17 ?gn17 ?_
       case hn17 => exact rfl
       case vn17 => exact (fun R => .pointer (some ⟨g8, 1, none⟩))
       case kn17 => exact (fun R => rfl)
       case gn17 => exact gd_none rfl
       intro R s w' hT hs hw ha
       go_simp
     · refine er_q ?vn18 ?hn18 ?kn18 ?gn18 ?_
       case hn18 => exact rfl
       case vn18 => exact (fun R => .agg (frC f0))
       case kn18 => exact (fun R => rfl)
       case gn18 => exact gd_none rfl
       intro R s w' hT hs hw ha
       have L := run_load_part (P8.sameE hw P8_nb (by simp)) _ _ uRat rfl 1 10 iRat (by rw [sC]; first | decide | omega) _ (fL)
       refine q_load rfl ?_ L
       kernel_rfl
     · refine er_q ?vn19 ?hn19 ?kn19 ?gn19 ?_
       case hn19 => exact rfl
       case vn19 => exact (fun R => .pointer (some ⟨g8, 11, none⟩))
       case kn19 => exact (fun R => rfl)
       case gn19 => exact gd_none rfl
       intro R s w' hT hs hw ha
       go_simp
     · refine er_q ?vn20 ?hn20 ?kn20 ?gn20 ?_
       case hn20 => exact rfl
       case vn20 => exact (fun R => .agg (frC f1))
       case kn20 => exact (fun R => rfl)
       case gn20 => exact gd_none rfl
       intro R s w' hT hs hw ha
       have L := run_load_part (P8.sameE hw P8_nb (by simp)) _ _ uRat rfl 11 10 iRat (by rw [sC]; first | decide | omega) _ (fH)
       refine q_load rfl ?_ L
       kernel_rfl
     · refine er_q ?vn21 ?hn21 ?kn21 ?gn21 ?_
       case hn21 => exact rfl
       case vn21 => exact (fun R => .agg C)
       case kn21 => exact (fun R => rfl)
       case gn21 => exact gd_none rfl
       intro R s w' hT hs hw ha
       have L := ld_all (P8.sameE hw P8_nb (by simp)) uCone rfl iCone sC
       refine q_load rfl ?_ L
       kernel_rfl
     · refine er_q ?vn22 ?hn22 ?kn22 ?gn22 ?_
       case hn22 => exact rfl
       case vn22 => exact (fun R => .agg (frC s4))
       case kn22 => exact (fun R => rfl)
       case gn22 => exact gd_none rfl
       intro R s w' hT hs hw ha
       go_simp
       exact kC.out w'
     · refine er_q ?vn23 ?hn23 ?kn23 ?gn23 ?_
       case hn23 => exact rfl
       case vn23 => exact (fun R => .pointer (some ⟨b, 0, none⟩))
       case kn23 => exact (fun R => rfl)
       case gn23 => exact gd_none rfl
       intro R s w' hT hs hw ha
       go_simp
     · refine er_ev (m := 0) ?hn24 ?gn24 ?_
       case hn24 => exact rfl
       case gn24 => exact gd_none rfl
       intro R w' hT hw
       go_simp
       refine (t_ratio b b w' w' hT.1.1 (Upd.refl _ _)).mono ?_
       rintro e w2 ⟨n, d, rfl, hF, hT2, hU2⟩
       exact ⟨_, rfl, ts_ev hT hT2 hU2 (hT.1.2.2.step rfl ⟨n, d, rfl, hF⟩)⟩
     · refine er_ev (m := 1) ?hn25 ?gn25 ?_
       case hn25 => exact rfl
       case gn25 => exact gd_none rfl
       intro R w' hT hw
       obtain ⟨n0, d0, e0, hF0⟩ := hT.1.2.2.get 0 rfl (by omega)
       have q0 : rowV (R 0) = frC (n0, d0) := by rw [e0]; rfl
       have a0 : R 0 = .agg (rowV (R 0)) := by rw [e0]; rfl
       have hrw : rowf R = frC f0 ++ frC f1 ++ frC s4 ++ rowV (R 0) := by rw [← hrf.out]
       refine ev_rats4 (S0 := frC f0) (S1 := frC f1) (S2 := frC s4) (S3 := rowV (R 0)) rfl (Eq.trans (b := #[(0, .agg (frC f0)), (1, .agg (frC f1)), (2, .agg (frC s4)), (3, R 0)]) ?_ (by rw [← a0])) (r0) (r1) (r4) (by rw [q0]; exact frC_rc _) ⟨te_below' hT.1 (below_alloc _ _), fun _ => ⟨w'.heap.size, by unfold updR; rw [if_pos rfl], ?_, ?_⟩⟩ (Below.growE (below_alloc _ _))
       · kernel_rfl
       · exact hT.1.2.1.2.2.2.1
       · have hb := Blk.new w' 40 (frC f0 ++ frC f1 ++ frC s4 ++ rowV (R 0))
         have hu : rowf (updR R 1 (.slice (some ⟨w'.heap.size, 0, none⟩) 4 4)) = frC f0 ++ frC f1 ++ frC s4 ++ rowV (R 0) := by rw [← hrf.out]; rfl
         rw [hu]
         exact hb
     · refine er_q ?vn26 ?hn26 ?kn26 ?gn26 ?_
       case hn26 => exact rfl
       case vn26 => exact (fun R => (R 1))
       case kn26 => exact (fun R => rfl)
       case gn26 => exact gd_none rfl
       intro R s w' hT hs hw ha
       go_simp
   case end26 =>
    intro sI R G w27 hI FF hFF
    have hS := hI.same
    have hTT := hI.holds
    have hz0 := UU.out.2.2.2.1
    have hsl : 1 < sI := (hI.stage 8 (show 8 < 10 by decide) 1 rfl).1 (List.mem_range.2 (show 8 < 10 by decide))
    obtain ⟨gl, el, hgl, PL⟩ := hTT.2 hsl
    have hTT := hTT.1
    have hs0 : 0 < sI := (hI.stage 7 (show 7 < 10 by decide) 0 rfl).1 (List.mem_range.2 (show 7 < 10 by decide))
    obtain ⟨n0, d0, e0, hF0⟩ := hTT.2.2.get 0 rfl hs0
    replace P8 := P8.sameE hS P8_nb (by simp)
    replace T0 := hTT.1
    replace UU := hide hTT.2.1
    clear hS hz0 hTT hI P8_lt
    dsimp only at hFF
    subst hFF
    (try simp only [e0])
    rw [← hrf.out] at PL
    have PL : Blk _ _ _ (frC f0 ++ frC f1 ++ frC s4 ++ rowV (R 0)) := PL
    rw [e0] at PL
    rw [el]
    change Blk _ _ _ (frC f0 ++ frC f1 ++ frC s4 ++ (frC (n0, d0))) at PL
    clear el hrf
    clear e0
    obtain ⟨sLR, hparts⟩ := part4 r0 r1 r4 (frC_rc (n0, d0))
    have Hpart : Hid (∀ k, k < 4 → ∃ f, okF f ∧ (frC f0 ++ frC f1 ++ frC s4 ++ frC (n0, d0)).extract (k * 10) (k * 10 + 10) = frC f) := hide (fun k hk => by
      obtain ⟨S, hS, e⟩ := hparts k hk
      rw [e]
      rcases hS with ⟨_, rfl⟩ | ⟨_, rfl⟩ | ⟨_, rfl⟩ | ⟨_, rfl⟩
      · exact ⟨f0, hs.out.1, rfl⟩
      · exact ⟨f1, hs.out.2.1, rfl⟩
      · exact ⟨s4, hs.out.2.2, rfl⟩
      · exact ⟨(n0, d0), hF0, rfl⟩)
    obtain ⟨LR, hLR⟩ : ∃ C, frC f0 ++ frC f1 ++ frC s4 ++ frC (n0, d0) = C := ⟨_, rfl⟩
    rw [hLR] at PL sLR Hpart
    clear hLR hparts hs hF0 fL fH kC kT kO
    replace EE : Hid (Ext W w27) := hide (UU.out.ext EE.out (by rw [HB.out]; exact Nat.le_refl _))
    clear T0 UU hBw
    go_upto_region 7 with fail
    go_wp2_with fail
    go_loopw [11] (fun iv wr => ∃ k : Nat, k ≤ 4 ∧ iv = .int .i64 (k : Int) ∧ Hid (Ext w27 wr)) (fun iv _ => 4 - (intOf iv).toNat)
    case atStart => exact ⟨0, by omega, rfl, hide (Ext.refl _)⟩
    case round =>
      obtain ⟨k, hk, rfl, HE⟩ := hrel
      replace P8 := P8.ext HE.out
      replace PL := PL.ext HE.out
      have EW : Hid (Ext W wr) := hide (EE.out.trans HE.out)
      by_cases hlt : k < 4
      · have d0' : decide ((k : Int) < 4) = true := decide_eq_true (by omega)
        obtain ⟨f, hf, eS⟩ := Hpart.out k hlt
        obtain ⟨Nm, Dn, Ud, Vv, Bb, Ee, N1, D1, D2, N2, N3, M1, Q1, R1, R2, R3, rc, r2, fits, nb1, nb2, HK⟩ := HF.out f hf
        obtain ⟨S, hS⟩ : ∃ S, frC f = S := ⟨_, rfl⟩
        rw [hS] at eS HK
        clear hS hf
        have k1 := hide HK.k1
        have k2 := hide HK.k2
        have k3 := hide HK.k3
        have k4 := hide HK.k4
        have k5 := hide HK.k5
        have k6 := hide HK.k6
        have k7 := hide HK.k7
        have k8 := hide HK.k8
        have k9 := hide HK.k9
        have k10 := hide HK.k10
        have k11 := hide HK.k11
        have k12 := hide HK.k12
        have k13 := hide HK.k13
        have k14 := hide HK.k14
        have k15 := hide HK.k15
        have hfit := HK.hf
        have hrr := HK.hr
        have n0' := HK.n0
        have n1' := HK.n1
        have m0' := HK.m0
        have m1' := HK.m1
        have g0' := HK.f0
        have g1' := HK.f1
        have sS := HK.sS
        have oS := HK.oS
        have sNm := (HK.sz Nm (by simp)).1
        have oNm := (HK.sz Nm (by simp)).2
        have sDn := (HK.sz Dn (by simp)).1
        have oDn := (HK.sz Dn (by simp)).2
        have sN1 := (HK.sz N1 (by simp)).1
        have oN1 := (HK.sz N1 (by simp)).2
        have sD1 := (HK.sz D1 (by simp)).1
        have oD1 := (HK.sz D1 (by simp)).2
        have sD2 := (HK.sz D2 (by simp)).1
        have oD2 := (HK.sz D2 (by simp)).2
        have sN2 := (HK.sz N2 (by simp)).1
        have oN2 := (HK.sz N2 (by simp)).2
        have sN3 := (HK.sz N3 (by simp)).1
        have oN3 := (HK.sz N3 (by simp)).2
        have sM1 := (HK.sz M1 (by simp)).1
        have oM1 := (HK.sz M1 (by simp)).2
        have sR1 := (HK.sz R1 (by simp)).1
        have oR1 := (HK.sz R1 (by simp)).2
        have sR2 := (HK.sz R2 (by simp)).1
        have oR2 := (HK.sz R2 (by simp)).2
        have sR3 := (HK.sz R3 (by simp)).1
        have oR3 := (HK.sz R3 (by simp)).2
        clear HK
        obtain ⟨kx, hk10⟩ : ∃ q, k * 10 = q := ⟨_, rfl⟩
        rw [hk10] at eS
        have ix := hide (fun w => idxR gl 4 4 k kx hlt hk10 w)
        have h50 : kx + 10 ≤ 40 := by omega
        have hne : (fits != fits) = false := by cases fits <;> rfl
        have hne2 : (fits == fits) = true := by cases fits <;> rfl
        replace EE : Hid (Ext wr wr) := Ext.refl _
        go_upto_region 10 with fail
        have P8_lt := P8.lt
        have PL_lt := PL.lt
        refine wp_evsA [.q, .q, .q, .q, .al, .st 4] [0, 0, 0, 0, 0, 0] (fun R => [.slice (some ⟨gl, 0, none⟩) 4 4, .int .i64 (k : Int), .pointer (some ⟨gl, kx, none⟩), .agg S, undef, undef]) (fun _ => (.cells zR 40 (0, 0))) (fun R _ => (.cells S 40 (0, 0))) (fun _ => 0) (XE wr) (fun _ => False) _ (fun R G => { tmps := #[.slice x len cap, undef, u2, .pointer (some ⟨b, 0, none⟩), .int .i64 base, .int .i64 v, .int .i64 eps, .int .u64 (d : Int), .pointer (some ⟨g8, 0, none⟩), .bool true, .slice (some ⟨gl, 0, none⟩) 4 4, .int .i64 (k : Int), .pointer (some ⟨G 4, 0, none⟩), u13, u14, u15, u16, u17, u18, u19, u20, u21, .slice x len cap, .pointer (some ⟨b, 0, none⟩), .pointer (some ⟨b, 0, none⟩), .int .i64 base, .pointer (some ⟨b, 0, none⟩), .int .i64 v, .pointer (some ⟨b, 0, none⟩), .int .i64 eps, .pointer (some ⟨b, 0, none⟩), .int .u64 (xw : Int), .pointer (some ⟨b, 0, none⟩), .int .i64 (y : Int), .int .i64 (q : Int), .int .u64 (q : Int), .int .u64 (r : Int), .int .u64 (d : Int), .tuple #[.agg C, .bool true], .int .i64 base, .agg (wC base), .int .i64 v, .int .i64 eps, .int .u64 (d : Int), .tuple #[.agg C, .bool true], .agg C, .bool true, .bool true, .bool false, .pointer (some ⟨g8, 1, none⟩), .agg (frC f0), .pointer (some ⟨g8, 11, none⟩), .agg (frC f1), .agg C, .agg (frC s4), .pointer (some ⟨b, 0, none⟩), .agg (frC (n0, d0)), .slice (some ⟨gl, 0, none⟩) 4 4, .int .i64 (k : Int), .slice (some ⟨gl, 0, none⟩) 4 4, .int .i64 4, .bool true, u62, u63, .slice (some ⟨gl, 0, none⟩) 4 4, .int .i64 (k : Int), .pointer (some ⟨gl, kx, none⟩), .agg S, u68, u69, u70, u71, u72, u73, u74, u75, u76, u77, u78, u79, u80, u81, u82, u83, u84, u85, u86, u87, u88, u89, u90, u91, u92, u93, u94, u95, u96, u97, u98, u99, u100, u101, u102, u103, u104, u105, u106, u107, u108, u109, u110, u111, u112, u113, u114, u115, u116, u117, u118, u119, u120, u121, u122, u123, u124, u125, u126, u127, u128, u129, u130, u131, u132, u133, u134, u135, u136, u137, u138, u139, undef], defers := [] }) (by intro R G; kernel_rfl) (fun _ => rfl) (by kernel_rfl) (by kernel_rfl) (by kernel_rfl) rfl (fun _ => rfl) (fun _ h => h.elim) (fun _ _ h => h) (by simp) (by simp) (fun R R' => ⟨fun _ => rfl, fun _ => rfl, fun _ => rfl, fun _ => rfl, fun _ => rfl, fun _ => rfl, trivial⟩) (fun _ _ _ _ => rfl) xe_below EE.out ?ops333 ?end333
        case ops333 =>
          refine ⟨?_, ?_, ?_, ?_, ?_, ?_, trivial⟩
          · refine er_q ?vn328 ?hn328 ?kn328 ?gn328 ?_
            case hn328 => exact rfl
            case vn328 => exact (fun R => .slice (some ⟨gl, 0, none⟩) 4 4)
            case kn328 => exact (fun R => rfl)
            case gn328 => exact gd_none rfl
            intro R s w' hT hs hw ha
            go_simp
          · refine er_q ?vn329 ?hn329 ?kn329 ?gn329 ?_
            case hn329 => exact rfl
            case vn329 => exact (fun R => .int .i64 (k : Int))
            case kn329 => exact (fun R => rfl)
            case gn329 => exact gd_none rfl
            intro R s w' hT hs hw ha
            go_simp
          · refine er_q ?vn330 ?hn330 ?kn330 ?gn330 ?_
            case hn330 => exact rfl
            case vn330 => exact (fun R => .pointer (some ⟨gl, kx, none⟩))
            case kn330 => exact (fun R => rfl)
            case gn330 => exact gd_none rfl
            intro R s w' hT hs hw ha
            refine q_idx rfl ?_ ?_ (ix.out w')
            · kernel_rfl
            · kernel_rfl
          · refine er_q ?vn331 ?hn331 ?kn331 ?gn331 ?_
            case hn331 => exact rfl
            case vn331 => exact (fun R => .agg S)
            case kn331 => exact (fun R => rfl)
            case gn331 => exact gd_none rfl
            intro R s w' hT hs hw ha
            have L := run_load_part (PL.sameE hw (fun h => h) (by simp)) _ _ uRat rfl kx 10 iRat (by rw [sLR]; first | decide | omega) _ (eS)
            refine q_load rfl ?_ L
            kernel_rfl
          · refine er_al ?zn332 ?hn332 ?kn332 ?gn332 ?_
            case zn332 => exact (.cells zR 40 (0, 0))
            case hn332 => exact rfl
            case kn332 => exact rfl
            case gn332 => exact gd_none rfl
            intro ρ w'
            go_simp
            exact ⟨rfl, rfl⟩
          · refine er_st (j := 4) (Ty := ?Tn333) (p := ?pn333) (x := ?xn333) ?fn333 ?zn333 ?vn333 ?hn333 ?on333 ?kn333 ?ln333 ?gn333 ?en333 ?_
            case hn333 => exact rfl
            case on333 => exact rfl
            case fn333 => exact (fun R => (.cells S 40 (0, 0)))
            case zn333 => exact (.cells zR 40 (0, 0))
            case vn333 => exact (fun R => .agg S)
            case kn333 => exact (fun R => rfl)
            case ln333 => exact rfl
            case gn333 => exact gd_none rfl
            case en333 =>
              intro R
              kernel_rfl
            intro R s ρ w g hT hs hp hx hg hz
            exact ⟨store_row rfl hp hx hz iRat (sS) (oS), fun w1 hF => ext_filled hT hF (Nat.le_trans EE.out.size hg)⟩
        case end333 =>
         intro sI R G w334 hI FF hFF
         have hS := hI.same
         have hTT := hI.holds
         have hz0 := EE.out.size
         replace P8 := P8.sameE hS (fun h => h) (by simp)
         replace PL := PL.sameE hS (fun h => h) (by simp)
         have P12 : Blk w334 (G 4) 40 S := (hI.fulls 5 (List.mem_range.2 (show 5 < 6 by decide)) 4 rfl).2.2
         have hmP12 := (hI.made 4 (List.mem_range.2 (show 4 < 6 by decide)) rfl).1
         have P12_lo : wr.heap.size ≤ G 4 := Nat.le_trans hz0 hmP12
         have ngP8_12 : g8 ≠ G 4 := by omega
         have ngPL_12 : gl ≠ G 4 := by omega
         replace EE := hide (show Ext _ _ from hTT)
         clear hS hz0 hTT hI P8_lt PL_lt
         dsimp only at hFF
         subst hFF
         generalize G 4 = g12 at *
         go_upto_region 11 with fail
         have P8_lt := P8.lt
         have PL_lt := PL.lt
         have P12_lt := P12.lt
         refine wp_evA [.q, .q, .q, .q, .q, .q, .q, .q, .al, .st 8, .q] [0, 0, 0, 0, 0, 0, 0, 0, 0, 0, 0] (fun R => [.pointer (some ⟨g12, 0, none⟩), .agg Nm, .int .u64 (d : Int), .agg Ud, .tuple #[.agg N1, .bool true], .tuple #[.agg N1, .bool true], .agg N1, .bool true, undef, undef, .bool true]) (fun _ => (.cells z5 25 (0, 0))) (fun R _ => (.cells N1 25 (0, 0))) (fun _ => 0) (XE wr) (fun _ => False) _ (fun R G => { tmps := #[.slice x len cap, undef, u2, .pointer (some ⟨b, 0, none⟩), .int .i64 base, .int .i64 v, .int .i64 eps, .int .u64 (d : Int), .pointer (some ⟨g8, 0, none⟩), .bool true, .slice (some ⟨gl, 0, none⟩) 4 4, .int .i64 (k : Int), .pointer (some ⟨g12, 0, none⟩), .pointer (some ⟨G 8, 0, none⟩), .bool true, u15, u16, u17, u18, u19, u20, u21, .slice x len cap, .pointer (some ⟨b, 0, none⟩), .pointer (some ⟨b, 0, none⟩), .int .i64 base, .pointer (some ⟨b, 0, none⟩), .int .i64 v, .pointer (some ⟨b, 0, none⟩), .int .i64 eps, .pointer (some ⟨b, 0, none⟩), .int .u64 (xw : Int), .pointer (some ⟨b, 0, none⟩), .int .i64 (y : Int), .int .i64 (q : Int), .int .u64 (q : Int), .int .u64 (r : Int), .int .u64 (d : Int), .tuple #[.agg C, .bool true], .int .i64 base, .agg (wC base), .int .i64 v, .int .i64 eps, .int .u64 (d : Int), .tuple #[.agg C, .bool true], .agg C, .bool true, .bool true, .bool false, .pointer (some ⟨g8, 1, none⟩), .agg (frC f0), .pointer (some ⟨g8, 11, none⟩), .agg (frC f1), .agg C, .agg (frC s4), .pointer (some ⟨b, 0, none⟩), .agg (frC (n0, d0)), .slice (some ⟨gl, 0, none⟩) 4 4, .int .i64 (k : Int), .slice (some ⟨gl, 0, none⟩) 4 4, .int .i64 4, .bool true, u62, u63, .slice (some ⟨gl, 0, none⟩) 4 4, .int .i64 (k : Int), .pointer (some ⟨gl, kx, none⟩), .agg S, .tuple #[.agg N1, .bool true], .pointer (some ⟨g12, 0, none⟩), .agg Nm, .int .u64 (d : Int), .agg Ud, .tuple #[.agg N1, .bool true], .agg N1, .bool true, u76, u77, u78, u79, u80, u81, u82, u83, u84, u85, u86, u87, u88, u89, u90, u91, u92, u93, u94, u95, u96, u97, u98, u99, u100, u101, u102, u103, u104, u105, u106, u107, u108, u109, u110, u111, u112, u113, u114, u115, u116, u117, u118, u119, u120, u121, u122, u123, u124, u125, u126, u127, u128, u129, u130, u131, u132, u133, u134, u135, u136, u137, u138, u139, undef], defers := [] }) (by intro R G; kernel_rfl) (fun _ => rfl) (by kernel_rfl) (by kernel_rfl) (by kernel_rfl) (by kernel_rfl) rfl (fun _ => rfl) (fun _ h => h.elim) (fun _ _ h => h) (by simp) (by simp) (fun R R' => ⟨fun _ => rfl, fun _ => rfl, fun _ => rfl, fun _ => rfl, fun _ => rfl, fun _ => rfl, fun _ => rfl, fun _ => rfl, fun _ => rfl, fun _ => rfl, fun _ => rfl, trivial⟩) (fun _ _ _ _ => rfl) xe_below (EE.out.trans (ext_drew _)) ?ops345 ?end345
         case ops345 =>
           refine ⟨?_, ?_, ?_, ?_, ?_, ?_, ?_, ?_, ?_, ?_, ?_, trivial⟩
           · refine er_q ?vn335 ?hn335 ?kn335 ?gn335 ?_
             case hn335 => exact rfl
             case vn335 => exact (fun R => .pointer (some ⟨g12, 0, none⟩))
             case kn335 => exact (fun R => rfl)
             case gn335 => exact gd_none rfl
             intro R s w' hT hs hw ha
             go_simp
           · refine er_q ?vn336 ?hn336 ?kn336 ?gn336 ?_
             case hn336 => exact rfl
             case vn336 => exact (fun R => .agg Nm)
             case kn336 => exact (fun R => rfl)
             case gn336 => exact gd_none rfl
             intro R s w' hT hs hw ha
             have L := run_load_part (P12.sameE hw (fun h => h) (by simp)) _ _ uWide rfl 0 5 iWide (by rw [sS]; first | decide | omega) _ (g0')
             refine q_load rfl ?_ L
             kernel_rfl
           · refine er_q ?vn337 ?hn337 ?kn337 ?gn337 ?_
             case hn337 => exact rfl
             case vn337 => exact (fun R => .int .u64 (d : Int))
             case kn337 => exact (fun R => rfl)
             case gn337 => exact gd_none rfl
             intro R s w' hT hs hw ha
             go_simp
           · refine er_q ?vn338 ?hn338 ?kn338 ?gn338 ?_
             case hn338 => exact rfl
             case vn338 => exact (fun R => .agg Ud)
             case kn338 => exact (fun R => rfl)
             case gn338 => exact gd_none rfl
             intro R s w' hT hs hw ha
             go_simp
             exact k1.out w'
           · refine er_q ?vn339 ?hn339 ?kn339 ?gn339 ?_
             case hn339 => exact rfl
             case vn339 => exact (fun R => .tuple #[.agg N1, .bool true])
             case kn339 => exact (fun R => rfl)
             case gn339 => exact gd_none rfl
             intro R s w' hT hs hw ha
             go_simp
             exact k2.out w'
           · refine er_q ?vn340 ?hn340 ?kn340 ?gn340 ?_
             case hn340 => exact rfl
             case vn340 => exact (fun R => .tuple #[.agg N1, .bool true])
             case kn340 => exact (fun R => rfl)
             case gn340 => exact gd_none rfl
             intro R s w' hT hs hw ha
             go_simp
           · refine er_q ?vn341 ?hn341 ?kn341 ?gn341 ?_
             case hn341 => exact rfl
             case vn341 => exact (fun R => .agg N1)
             case kn341 => exact (fun R => rfl)
             case gn341 => exact gd_none rfl
             intro R s w' hT hs hw ha
             go_simp
           · refine er_q ?vn342 ?hn342 ?kn342 ?gn342 ?_
             case hn342 => exact rfl
             case vn342 => exact (fun R => .bool true)
             case kn342 => exact (fun R => rfl)
             case gn342 => exact gd_none rfl
             intro R s w' hT hs hw ha
             go_simp
           · refine er_al ?zn343 ?hn343 ?kn343 ?gn343 ?_
             case zn343 => exact (.cells z5 25 (0, 0))
             case hn343 => exact rfl
             case kn343 => exact rfl
             case gn343 => exact gd_none rfl
             intro ρ w'
             go_simp
             exact ⟨rfl, rfl⟩
           · refine er_st (j := 8) (Ty := ?Tn344) (p := ?pn344) (x := ?xn344) ?fn344 ?zn344 ?vn344 ?hn344 ?on344 ?kn344 ?ln344 ?gn344 ?en344 ?_
             case hn344 => exact rfl
             case on344 => exact rfl
             case fn344 => exact (fun R => (.cells N1 25 (0, 0)))
             case zn344 => exact (.cells z5 25 (0, 0))
             case vn344 => exact (fun R => .agg N1)
             case kn344 => exact (fun R => rfl)
             case ln344 => exact rfl
             case gn344 => exact gd_none rfl
             case en344 =>
               intro R
               kernel_rfl
             intro R s ρ w g hT hs hp hx hg hz
             exact ⟨store_row rfl hp hx hz iWide (sN1) (oN1), fun w1 hF => ext_filled hT hF (Nat.le_trans EE.out.size hg)⟩
           · refine er_q ?vn345 ?hn345 ?kn345 ?gn345 ?_
             case hn345 => exact rfl
             case vn345 => exact (fun R => .bool true)
             case kn345 => exact (fun R => rfl)
             case gn345 => exact gd_none rfl
             intro R s w' hT hs hw ha
             go_simp
         case end345 =>
          intro sI R G w346 hI FF hFF
          have hS := hI.same
          have hTT := hI.holds
          have hz0 := EE.out.size
          replace P8 := P8.sameE hS (fun h => h) (by simp)
          replace PL := PL.sameE hS (fun h => h) (by simp)
          replace P12 := P12.sameE hS (fun h => h) (by simp)
          have P13 : Blk w346 (G 8) 25 N1 := (hI.fulls 9 (List.mem_range.2 (show 9 < 11 by decide)) 8 rfl).2.2
          have hmP13 := (hI.made 8 (List.mem_range.2 (show 8 < 11 by decide)) rfl).1
          have P13_lo : wr.heap.size ≤ G 8 := Nat.le_trans hz0 hmP13
          have ngP8_13 : g8 ≠ G 8 := by omega
          have ngPL_13 : gl ≠ G 8 := by omega
          have ngP12_13 : g12 ≠ G 8 := by omega
          replace EE := hide (show Ext _ _ from hTT)
          clear hS hz0 hTT hI P8_lt PL_lt P12_lt
          dsimp only at hFF
          subst hFF
          generalize G 8 = g13 at *
          go_upto_region 12 with fail
          have P8_lt := P8.lt
          have PL_lt := PL.lt
          have P12_lt := P12.lt
          have P13_lt := P13.lt
          refine wp_evsA [.q, .q, .q, .q, .q, .q, .q, .q, .al, .st 8, .q] [0, 0, 0, 0, 0, 0, 0, 0, 0, 0, 0] (fun R => [.int .i64 v, .agg Vv, .int .i64 base, .agg Bb, .tuple #[.agg D1, .bool true], .tuple #[.agg D1, .bool true], .agg D1, .bool true, undef, undef, .bool true]) (fun _ => (.cells z5 25 (0, 0))) (fun R _ => (.cells D1 25 (0, 0))) (fun _ => 0) (XE wr) (fun _ => False) _ (fun R G => { tmps := #[.slice x len cap, undef, u2, .pointer (some ⟨b, 0, none⟩), .int .i64 base, .int .i64 v, .int .i64 eps, .int .u64 (d : Int), .pointer (some ⟨g8, 0, none⟩), .bool true, .slice (some ⟨gl, 0, none⟩) 4 4, .int .i64 (k : Int), .pointer (some ⟨g12, 0, none⟩), .pointer (some ⟨g13, 0, none⟩), .bool true, .pointer (some ⟨G 8, 0, none⟩), .bool true, u17, u18, u19, u20, u21, .slice x len cap, .pointer (some ⟨b, 0, none⟩), .pointer (some ⟨b, 0, none⟩), .int .i64 base, .pointer (some ⟨b, 0, none⟩), .int .i64 v, .pointer (some ⟨b, 0, none⟩), .int .i64 eps, .pointer (some ⟨b, 0, none⟩), .int .u64 (xw : Int), .pointer (some ⟨b, 0, none⟩), .int .i64 (y : Int), .int .i64 (q : Int), .int .u64 (q : Int), .int .u64 (r : Int), .int .u64 (d : Int), .tuple #[.agg C, .bool true], .int .i64 base, .agg (wC base), .int .i64 v, .int .i64 eps, .int .u64 (d : Int), .tuple #[.agg C, .bool true], .agg C, .bool true, .bool true, .bool false, .pointer (some ⟨g8, 1, none⟩), .agg (frC f0), .pointer (some ⟨g8, 11, none⟩), .agg (frC f1), .agg C, .agg (frC s4), .pointer (some ⟨b, 0, none⟩), .agg (frC (n0, d0)), .slice (some ⟨gl, 0, none⟩) 4 4, .int .i64 (k : Int), .slice (some ⟨gl, 0, none⟩) 4 4, .int .i64 4, .bool true, u62, u63, .slice (some ⟨gl, 0, none⟩) 4 4, .int .i64 (k : Int), .pointer (some ⟨gl, kx, none⟩), .agg S, .tuple #[.agg N1, .bool true], .pointer (some ⟨g12, 0, none⟩), .agg Nm, .int .u64 (d : Int), .agg Ud, .tuple #[.agg N1, .bool true], .agg N1, .bool true, .tuple #[.agg D1, .bool true], .int .i64 v, .agg Vv, .int .i64 base, .agg Bb, .tuple #[.agg D1, .bool true], .agg D1, .bool true, u84, u85, u86, u87, u88, u89, u90, u91, u92, u93, u94, u95, u96, u97, u98, u99, u100, u101, u102, u103, u104, u105, u106, u107, u108, u109, u110, u111, u112, u113, u114, u115, u116, u117, u118, u119, u120, u121, u122, u123, u124, u125, u126, u127, u128, u129, u130, u131, u132, u133, u134, u135, u136, u137, u138, u139, undef], defers := [] }) (by intro R G; kernel_rfl) (fun _ => rfl) (by kernel_rfl) (by kernel_rfl) (by kernel_rfl) rfl (fun _ => rfl) (fun _ h => h.elim) (fun _ _ h => h) (by simp) (by simp) (fun R R' => ⟨fun _ => rfl, fun _ => rfl, fun _ => rfl, fun _ => rfl, fun _ => rfl, fun _ => rfl, fun _ => rfl, fun _ => rfl, fun _ => rfl, fun _ => rfl, fun _ => rfl, trivial⟩) (fun _ _ _ _ => rfl) xe_below EE.out ?ops357 ?end357
          case ops357 =>
            refine ⟨?_, ?_, ?_, ?_, ?_, ?_, ?_, ?_, ?_, ?_, ?_, trivial⟩
            · refine er_q ?vn347 ?hn347 ?kn347 ?gn347 ?_
              case hn347 => exact rfl
              case vn347 => exact (fun R => .int .i64 v)
              case kn347 => exact (fun R => rfl)
              case gn347 => exact gd_none rfl
              intro R s w' hT hs hw ha
              go_simp
            · refine er_q ?vn348 ?hn348 ?kn348 ?gn348 ?_
              case hn348 => exact rfl
              case vn348 => exact (fun R => .agg Vv)
              case kn348 => exact (fun R => rfl)
              case gn348 => exact gd_none rfl
              intro R s w' hT hs hw ha
              go_simp
              exact k3.out w'
            · refine er_q ?vn349 ?hn349 ?kn349 ?gn349 ?_
              case hn349 => exact rfl
              case vn349 => exact (fun R => .int .i64 base)
              case kn349 => exact (fun R => rfl)
              case gn349 => exact gd_none rfl
              intro R s w' hT hs hw ha
              go_simp
            · refine er_q ?vn350 ?hn350 ?kn350 ?gn350 ?_
              case hn350 => exact rfl
              case vn350 => exact (fun R => .agg Bb)
              case kn350 => exact (fun R => rfl)
              case gn350 => exact gd_none rfl
              intro R s w' hT hs hw ha
              go_simp
              exact k4.out w'
            · refine er_q ?vn351 ?hn351 ?kn351 ?gn351 ?_
              case hn351 => exact rfl
              case vn351 => exact (fun R => .tuple #[.agg D1, .bool true])
              case kn351 => exact (fun R => rfl)
              case gn351 => exact gd_none rfl
              intro R s w' hT hs hw ha
              go_simp
              exact k5.out w'
            · refine er_q ?vn352 ?hn352 ?kn352 ?gn352 ?_
              case hn352 => exact rfl
              case vn352 => exact (fun R => .tuple #[.agg D1, .bool true])
              case kn352 => exact (fun R => rfl)
              case gn352 => exact gd_none rfl
              intro R s w' hT hs hw ha
              go_simp
            · refine er_q ?vn353 ?hn353 ?kn353 ?gn353 ?_
              case hn353 => exact rfl
              case vn353 => exact (fun R => .agg D1)
              case kn353 => exact (fun R => rfl)
              case gn353 => exact gd_none rfl
              intro R s w' hT hs hw ha
              go_simp
            · refine er_q ?vn354 ?hn354 ?kn354 ?gn354 ?_
              case hn354 => exact rfl
              case vn354 => exact (fun R => .bool true)
              case kn354 => exact (fun R => rfl)
              case gn354 => exact gd_none rfl
              intro R s w' hT hs hw ha
              go_simp
            · refine er_al ?zn355 ?hn355 ?kn355 ?gn355 ?_
              case zn355 => exact (.cells z5 25 (0, 0))
              case hn355 => exact rfl
              case kn355 => exact rfl
              case gn355 => exact gd_none rfl
              intro ρ w'
              go_simp
              exact ⟨rfl, rfl⟩
            · refine er_st (j := 8) (Ty := ?Tn356) (p := ?pn356) (x := ?xn356) ?fn356 ?zn356 ?vn356 ?hn356 ?on356 ?kn356 ?ln356 ?gn356 ?en356 ?_
              case hn356 => exact rfl
              case on356 => exact rfl
              case fn356 => exact (fun R => (.cells D1 25 (0, 0)))
              case zn356 => exact (.cells z5 25 (0, 0))
              case vn356 => exact (fun R => .agg D1)
              case kn356 => exact (fun R => rfl)
              case ln356 => exact rfl
              case gn356 => exact gd_none rfl
              case en356 =>
                intro R
                kernel_rfl
              intro R s ρ w g hT hs hp hx hg hz
              exact ⟨store_row rfl hp hx hz iWide (sD1) (oD1), fun w1 hF => ext_filled hT hF (Nat.le_trans EE.out.size hg)⟩
            · refine er_q ?vn357 ?hn357 ?kn357 ?gn357 ?_
              case hn357 => exact rfl
              case vn357 => exact (fun R => .bool true)
              case kn357 => exact (fun R => rfl)
              case gn357 => exact gd_none rfl
              intro R s w' hT hs hw ha
              go_simp
          case end357 =>
           intro sI R G w358 hI FF hFF
           have hS := hI.same
           have hTT := hI.holds
           have hz0 := EE.out.size
           replace P8 := P8.sameE hS (fun h => h) (by simp)
           replace PL := PL.sameE hS (fun h => h) (by simp)
           replace P12 := P12.sameE hS (fun h => h) (by simp)
           replace P13 := P13.sameE hS (fun h => h) (by simp)
           have P15 : Blk w358 (G 8) 25 D1 := (hI.fulls 9 (List.mem_range.2 (show 9 < 11 by decide)) 8 rfl).2.2
           have hmP15 := (hI.made 8 (List.mem_range.2 (show 8 < 11 by decide)) rfl).1
           have P15_lo : wr.heap.size ≤ G 8 := Nat.le_trans hz0 hmP15
           have ngP8_15 : g8 ≠ G 8 := by omega
           have ngPL_15 : gl ≠ G 8 := by omega
           have ngP12_15 : g12 ≠ G 8 := by omega
           have ngP13_15 : g13 ≠ G 8 := by omega
           replace EE := hide (show Ext _ _ from hTT)
           clear hS hz0 hTT hI P8_lt PL_lt P12_lt P13_lt
           dsimp only at hFF
           subst hFF
           generalize G 8 = g15 at *
           go_upto_region 13 with fail
           have P8_lt := P8.lt
           have PL_lt := PL.lt
           have P12_lt := P12.lt
           have P13_lt := P13.lt
           have P15_lt := P15.lt
           refine wp_evsA [.q, .q, .q, .q, .q, .q, .q, .so 0] [0, 0, 0, 0, 0, 0, 0, 0] (fun R => [.agg D1, .pointer (some ⟨g12, 5, none⟩), .agg Dn, .tuple #[.agg D2, .bool true], .tuple #[.agg D2, .bool true], .agg D2, .bool true, undef]) (fun _ => (.cells #[] 0 (0, 0))) (fun R _ => (.cells D2 25 (0, 0))) (fun _ => g15) (XE wr) (fun _ => False) _ (fun R G => { tmps := #[.slice x len cap, undef, u2, .pointer (some ⟨b, 0, none⟩), .int .i64 base, .int .i64 v, .int .i64 eps, .int .u64 (d : Int), .pointer (some ⟨g8, 0, none⟩), .bool true, .slice (some ⟨gl, 0, none⟩) 4 4, .int .i64 (k : Int), .pointer (some ⟨g12, 0, none⟩), .pointer (some ⟨g13, 0, none⟩), .bool true, .pointer (some ⟨g15, 0, none⟩), .bool true, u17, u18, u19, u20, u21, .slice x len cap, .pointer (some ⟨b, 0, none⟩), .pointer (some ⟨b, 0, none⟩), .int .i64 base, .pointer (some ⟨b, 0, none⟩), .int .i64 v, .pointer (some ⟨b, 0, none⟩), .int .i64 eps, .pointer (some ⟨b, 0, none⟩), .int .u64 (xw : Int), .pointer (some ⟨b, 0, none⟩), .int .i64 (y : Int), .int .i64 (q : Int), .int .u64 (q : Int), .int .u64 (r : Int), .int .u64 (d : Int), .tuple #[.agg C, .bool true], .int .i64 base, .agg (wC base), .int .i64 v, .int .i64 eps, .int .u64 (d : Int), .tuple #[.agg C, .bool true], .agg C, .bool true, .bool true, .bool false, .pointer (some ⟨g8, 1, none⟩), .agg (frC f0), .pointer (some ⟨g8, 11, none⟩), .agg (frC f1), .agg C, .agg (frC s4), .pointer (some ⟨b, 0, none⟩), .agg (frC (n0, d0)), .slice (some ⟨gl, 0, none⟩) 4 4, .int .i64 (k : Int), .slice (some ⟨gl, 0, none⟩) 4 4, .int .i64 4, .bool true, u62, u63, .slice (some ⟨gl, 0, none⟩) 4 4, .int .i64 (k : Int), .pointer (some ⟨gl, kx, none⟩), .agg S, .tuple #[.agg N1, .bool true], .pointer (some ⟨g12, 0, none⟩), .agg Nm, .int .u64 (d : Int), .agg Ud, .tuple #[.agg N1, .bool true], .agg N1, .bool true, .tuple #[.agg D1, .bool true], .int .i64 v, .agg Vv, .int .i64 base, .agg Bb, .tuple #[.agg D1, .bool true], .agg D1, .bool true, .tuple #[.agg D2, .bool true], .agg D1, .pointer (some ⟨g12, 5, none⟩), .agg Dn, .tuple #[.agg D2, .bool true], .agg D2, .bool true, u91, u92, u93, u94, u95, u96, u97, u98, u99, u100, u101, u102, u103, u104, u105, u106, u107, u108, u109, u110, u111, u112, u113, u114, u115, u116, u117, u118, u119, u120, u121, u122, u123, u124, u125, u126, u127, u128, u129, u130, u131, u132, u133, u134, u135, u136, u137, u138, u139, undef], defers := [] }) (by intro R G; kernel_rfl) (fun _ => rfl) (by kernel_rfl) (by kernel_rfl) (by kernel_rfl) rfl (fun _ => rfl) (fun _ h => h.elim) (fun _ _ h => h) (by intro c hc; simp at hc; (try subst hc); (try simp only); omega) (by intro c c' h1 h2 _; simp at h1 h2; omega) (fun R R' => ⟨fun _ => rfl, fun _ => rfl, fun _ => rfl, fun _ => rfl, fun _ => rfl, fun _ => rfl, fun _ => rfl, fun _ => rfl, trivial⟩) (fun _ _ _ _ => rfl) xe_below EE.out ?ops366 ?end366
           case ops366 =>
             refine ⟨?_, ?_, ?_, ?_, ?_, ?_, ?_, ?_, trivial⟩
             · refine er_q ?vn359 ?hn359 ?kn359 ?gn359 ?_
               case hn359 => exact rfl
               case vn359 => exact (fun R => .agg D1)
               case kn359 => exact (fun R => rfl)
               case gn359 => exact gd_none rfl
               intro R s w' hT hs hw ha
               have L := ld_all ((ha 7 0 rfl (by kernel_rfl)).trans P15) uWide rfl iWide sD1
               refine q_load rfl ?_ L
               kernel_rfl
             · refine er_q ?vn360 ?hn360 ?kn360 ?gn360 ?_
               case hn360 => exact rfl
               case vn360 => exact (fun R => .pointer (some ⟨g12, 5, none⟩))
               case kn360 => exact (fun R => rfl)
               case gn360 => exact gd_none rfl
               intro R s w' hT hs hw ha
               go_simp
             · refine er_q ?vn361 ?hn361 ?kn361 ?gn361 ?_
               case hn361 => exact rfl
               case vn361 => exact (fun R => .agg Dn)
               case kn361 => exact (fun R => rfl)
               case gn361 => exact gd_none rfl
               intro R s w' hT hs hw ha
               have L := run_load_part (P12.sameE hw (fun h => h) (by intro c hc; simp at hc; (try subst hc); (try simp only); omega)) _ _ uWide rfl 5 5 iWide (by rw [sS]; first | decide | omega) _ (g1')
               refine q_load rfl ?_ L
               kernel_rfl
             · refine er_q ?vn362 ?hn362 ?kn362 ?gn362 ?_
               case hn362 => exact rfl
               case vn362 => exact (fun R => .tuple #[.agg D2, .bool true])
               case kn362 => exact (fun R => rfl)
               case gn362 => exact gd_none rfl
               intro R s w' hT hs hw ha
               go_simp
               exact k6.out w'
             · refine er_q ?vn363 ?hn363 ?kn363 ?gn363 ?_
               case hn363 => exact rfl
               case vn363 => exact (fun R => .tuple #[.agg D2, .bool true])
               case kn363 => exact (fun R => rfl)
               case gn363 => exact gd_none rfl
               intro R s w' hT hs hw ha
               go_simp
             · refine er_q ?vn364 ?hn364 ?kn364 ?gn364 ?_
               case hn364 => exact rfl
               case vn364 => exact (fun R => .agg D2)
               case kn364 => exact (fun R => rfl)
               case gn364 => exact gd_none rfl
               intro R s w' hT hs hw ha
               go_simp
             · refine er_q ?vn365 ?hn365 ?kn365 ?gn365 ?_
               case hn365 => exact rfl
               case vn365 => exact (fun R => .bool true)
               case kn365 => exact (fun R => rfl)
               case gn365 => exact gd_none rfl
               intro R s w' hT hs hw ha
               go_simp
             · refine er_so (c := 0) (Ty := ?Tn366) (p := ?pn366) (x := ?xn366) g15 ?fn366 ?un366 ?vn366 ?hn366 ?on366 ?kn366 ?ln366 ?gn366 ?dn366 ?en366 ?_
               case hn366 => exact rfl
               case on366 => exact rfl
               case fn366 => exact (fun R => (.cells D2 25 (0, 0)))
               case un366 => exact (fun R => .pointer (some ⟨g15, 0, none⟩))
               case vn366 => exact (fun R => .agg D2)
               case kn366 => exact (fun R => rfl)
               case ln366 => exact rfl
               case gn366 => exact gd_none rfl
               case dn366 =>
                 intro R
                 kernel_rfl
               case en366 =>
                 intro R
                 kernel_rfl
               intro R s ρ w hT hs hp hx hz
               refine ⟨store_rowN (g := g15) rfl hp hx (hz.trans P15) iWide (sD1) (sD2) (oD2), fun w1 hF => ext_filled hT hF P15_lo⟩
           case end366 =>
            intro sI R G w367 hI FF hFF
            have hS := hI.same
            have hTT := hI.holds
            have hz0 := EE.out.size
            replace P8 := P8.sameE hS (fun h => h) (by intro c hc; simp at hc; (try subst hc); (try simp only); omega)
            replace PL := PL.sameE hS (fun h => h) (by intro c hc; simp at hc; (try subst hc); (try simp only); omega)
            replace P12 := P12.sameE hS (fun h => h) (by intro c hc; simp at hc; (try subst hc); (try simp only); omega)
            replace P13 := P13.sameE hS (fun h => h) (by intro c hc; simp at hc; (try subst hc); (try simp only); omega)
            replace P15 : Blk w367 g15 25 D2 := hI.olds' 7 (List.mem_range.2 (show 7 < 8 by decide)) 0 rfl
            replace EE := hide (show Ext _ _ from hTT)
            clear hS hz0 hTT hI P8_lt PL_lt P12_lt P13_lt P15_lt
            dsimp only at hFF
            subst hFF
            go_upto_region 14 with fail
            have P8_lt := P8.lt
            have PL_lt := PL.lt
            have P12_lt := P12.lt
            have P13_lt := P13.lt
            have P15_lt := P15.lt
            refine wp_evsA [.q, .q, .q, .q, .q, .q, .so 0] [0, 0, 0, 0, 0, 0, 0] (fun R => [.agg N1, .agg D2, .tuple #[.agg N2, .bool true], .tuple #[.agg N2, .bool true], .agg N2, .bool true, undef]) (fun _ => (.cells #[] 0 (0, 0))) (fun R _ => (.cells N2 25 (0, 0))) (fun _ => g13) (XE wr) (fun _ => False) _ (fun R G => { tmps := #[.slice x len cap, undef, u2, .pointer (some ⟨b, 0, none⟩), .int .i64 base, .int .i64 v, .int .i64 eps, .int .u64 (d : Int), .pointer (some ⟨g8, 0, none⟩), .bool true, .slice (some ⟨gl, 0, none⟩) 4 4, .int .i64 (k : Int), .pointer (some ⟨g12, 0, none⟩), .pointer (some ⟨g13, 0, none⟩), .bool true, .pointer (some ⟨g15, 0, none⟩), .bool true, u17, u18, u19, u20, u21, .slice x len cap, .pointer (some ⟨b, 0, none⟩), .pointer (some ⟨b, 0, none⟩), .int .i64 base, .pointer (some ⟨b, 0, none⟩), .int .i64 v, .pointer (some ⟨b, 0, none⟩), .int .i64 eps, .pointer (some ⟨b, 0, none⟩), .int .u64 (xw : Int), .pointer (some ⟨b, 0, none⟩), .int .i64 (y : Int), .int .i64 (q : Int), .int .u64 (q : Int), .int .u64 (r : Int), .int .u64 (d : Int), .tuple #[.agg C, .bool true], .int .i64 base, .agg (wC base), .int .i64 v, .int .i64 eps, .int .u64 (d : Int), .tuple #[.agg C, .bool true], .agg C, .bool true, .bool true, .bool false, .pointer (some ⟨g8, 1, none⟩), .agg (frC f0), .pointer (some ⟨g8, 11, none⟩), .agg (frC f1), .agg C, .agg (frC s4), .pointer (some ⟨b, 0, none⟩), .agg (frC (n0, d0)), .slice (some ⟨gl, 0, none⟩) 4 4, .int .i64 (k : Int), .slice (some ⟨gl, 0, none⟩) 4 4, .int .i64 4, .bool true, u62, u63, .slice (some ⟨gl, 0, none⟩) 4 4, .int .i64 (k : Int), .pointer (some ⟨gl, kx, none⟩), .agg S, .tuple #[.agg N1, .bool true], .pointer (some ⟨g12, 0, none⟩), .agg Nm, .int .u64 (d : Int), .agg Ud, .tuple #[.agg N1, .bool true], .agg N1, .bool true, .tuple #[.agg D1, .bool true], .int .i64 v, .agg Vv, .int .i64 base, .agg Bb, .tuple #[.agg D1, .bool true], .agg D1, .bool true, .tuple #[.agg D2, .bool true], .agg D1, .pointer (some ⟨g12, 5, none⟩), .agg Dn, .tuple #[.agg D2, .bool true], .agg D2, .bool true, .tuple #[.agg N2, .bool true], .agg N1, .agg D2, .tuple #[.agg N2, .bool true], .agg N2, .bool true, u97, u98, u99, u100, u101, u102, u103, u104, u105, u106, u107, u108, u109, u110, u111, u112, u113, u114, u115, u116, u117, u118, u119, u120, u121, u122, u123, u124, u125, u126, u127, u128, u129, u130, u131, u132, u133, u134, u135, u136, u137, u138, u139, undef], defers := [] }) (by intro R G; kernel_rfl) (fun _ => rfl) (by kernel_rfl) (by kernel_rfl) (by kernel_rfl) rfl (fun _ => rfl) (fun _ h => h.elim) (fun _ _ h => h) (by intro c hc; simp at hc; (try subst hc); (try simp only); omega) (by intro c c' h1 h2 _; simp at h1 h2; omega) (fun R R' => ⟨fun _ => rfl, fun _ => rfl, fun _ => rfl, fun _ => rfl, fun _ => rfl, fun _ => rfl, fun _ => rfl, trivial⟩) (fun _ _ _ _ => rfl) xe_below EE.out ?ops374 ?end374
            case ops374 =>
              refine ⟨?_, ?_, ?_, ?_, ?_, ?_, ?_, trivial⟩
              · refine er_q ?vn368 ?hn368 ?kn368 ?gn368 ?_
                case hn368 => exact rfl
                case vn368 => exact (fun R => .agg N1)
                case kn368 => exact (fun R => rfl)
                case gn368 => exact gd_none rfl
                intro R s w' hT hs hw ha
                have L := ld_all ((ha 6 0 rfl (by kernel_rfl)).trans P13) uWide rfl iWide sN1
                refine q_load rfl ?_ L
                kernel_rfl
              · refine er_q ?vn369 ?hn369 ?kn369 ?gn369 ?_
                case hn369 => exact rfl
                case vn369 => exact (fun R => .agg D2)
                case kn369 => exact (fun R => rfl)
                case gn369 => exact gd_none rfl
                intro R s w' hT hs hw ha
                have L := ld_all (P15.sameE hw (fun h => h) (by intro c hc; simp at hc; (try subst hc); (try simp only); omega)) uWide rfl iWide sD2
                refine q_load rfl ?_ L
                kernel_rfl
              · refine er_q ?vn370 ?hn370 ?kn370 ?gn370 ?_
                case hn370 => exact rfl
                case vn370 => exact (fun R => .tuple #[.agg N2, .bool true])
                case kn370 => exact (fun R => rfl)
                case gn370 => exact gd_none rfl
                intro R s w' hT hs hw ha
                go_simp
                exact k7.out w'
              · refine er_q ?vn371 ?hn371 ?kn371 ?gn371 ?_
                case hn371 => exact rfl
                case vn371 => exact (fun R => .tuple #[.agg N2, .bool true])
                case kn371 => exact (fun R => rfl)
                case gn371 => exact gd_none rfl
                intro R s w' hT hs hw ha
                go_simp
              · refine er_q ?vn372 ?hn372 ?kn372 ?gn372 ?_
                case hn372 => exact rfl
                case vn372 => exact (fun R => .agg N2)
                case kn372 => exact (fun R => rfl)
                case gn372 => exact gd_none rfl
                intro R s w' hT hs hw ha
                go_simp
              · refine er_q ?vn373 ?hn373 ?kn373 ?gn373 ?_
                case hn373 => exact rfl
                case vn373 => exact (fun R => .bool true)
                case kn373 => exact (fun R => rfl)
                case gn373 => exact gd_none rfl
                intro R s w' hT hs hw ha
                go_simp
              · refine er_so (c := 0) (Ty := ?Tn374) (p := ?pn374) (x := ?xn374) g13 ?fn374 ?un374 ?vn374 ?hn374 ?on374 ?kn374 ?ln374 ?gn374 ?dn374 ?en374 ?_
                case hn374 => exact rfl
                case on374 => exact rfl
                case fn374 => exact (fun R => (.cells N2 25 (0, 0)))
                case un374 => exact (fun R => .pointer (some ⟨g13, 0, none⟩))
                case vn374 => exact (fun R => .agg N2)
                case kn374 => exact (fun R => rfl)
                case ln374 => exact rfl
                case gn374 => exact gd_none rfl
                case dn374 =>
                  intro R
                  kernel_rfl
                case en374 =>
                  intro R
                  kernel_rfl
                intro R s ρ w hT hs hp hx hz
                refine ⟨store_rowN (g := g13) rfl hp hx (hz.trans P13) iWide (sN1) (sN2) (oN2), fun w1 hF => ext_filled hT hF P13_lo⟩
            case end374 =>
             intro sI R G w375 hI FF hFF
             have hS := hI.same
             have hTT := hI.holds
             have hz0 := EE.out.size
             replace P8 := P8.sameE hS (fun h => h) (by intro c hc; simp at hc; (try subst hc); (try simp only); omega)
             replace PL := PL.sameE hS (fun h => h) (by intro c hc; simp at hc; (try subst hc); (try simp only); omega)
             replace P12 := P12.sameE hS (fun h => h) (by intro c hc; simp at hc; (try subst hc); (try simp only); omega)
             replace P15 := P15.sameE hS (fun h => h) (by intro c hc; simp at hc; (try subst hc); (try simp only); omega)
             replace P13 : Blk w375 g13 25 N2 := hI.olds' 6 (List.mem_range.2 (show 6 < 7 by decide)) 0 rfl
             replace EE := hide (show Ext _ _ from hTT)
             clear hS hz0 hTT hI P8_lt PL_lt P12_lt P13_lt P15_lt
             dsimp only at hFF
             subst hFF
             go_upto_region 15 with fail
             have P8_lt := P8.lt
             have PL_lt := PL.lt
             have P12_lt := P12.lt
             have P13_lt := P13.lt
             have P15_lt := P15.lt
             refine wp_evsA [.q, .so 0] [0, 0] (fun R => [.pointer (some ⟨g13, 0, none⟩), undef]) (fun _ => (.cells #[] 0 (0, 0))) (fun R _ => (.cells N3 25 (0, 0))) (fun _ => g13) (XE wr) (fun _ => False) _ (fun R G => { tmps := #[.slice x len cap, undef, u2, .pointer (some ⟨b, 0, none⟩), .int .i64 base, .int .i64 v, .int .i64 eps, .int .u64 (d : Int), .pointer (some ⟨g8, 0, none⟩), .bool true, .slice (some ⟨gl, 0, none⟩) 4 4, .int .i64 (k : Int), .pointer (some ⟨g12, 0, none⟩), .pointer (some ⟨g13, 0, none⟩), .bool true, .pointer (some ⟨g15, 0, none⟩), .bool true, u17, u18, u19, u20, u21, .slice x len cap, .pointer (some ⟨b, 0, none⟩), .pointer (some ⟨b, 0, none⟩), .int .i64 base, .pointer (some ⟨b, 0, none⟩), .int .i64 v, .pointer (some ⟨b, 0, none⟩), .int .i64 eps, .pointer (some ⟨b, 0, none⟩), .int .u64 (xw : Int), .pointer (some ⟨b, 0, none⟩), .int .i64 (y : Int), .int .i64 (q : Int), .int .u64 (q : Int), .int .u64 (r : Int), .int .u64 (d : Int), .tuple #[.agg C, .bool true], .int .i64 base, .agg (wC base), .int .i64 v, .int .i64 eps, .int .u64 (d : Int), .tuple #[.agg C, .bool true], .agg C, .bool true, .bool true, .bool false, .pointer (some ⟨g8, 1, none⟩), .agg (frC f0), .pointer (some ⟨g8, 11, none⟩), .agg (frC f1), .agg C, .agg (frC s4), .pointer (some ⟨b, 0, none⟩), .agg (frC (n0, d0)), .slice (some ⟨gl, 0, none⟩) 4 4, .int .i64 (k : Int), .slice (some ⟨gl, 0, none⟩) 4 4, .int .i64 4, .bool true, u62, u63, .slice (some ⟨gl, 0, none⟩) 4 4, .int .i64 (k : Int), .pointer (some ⟨gl, kx, none⟩), .agg S, .tuple #[.agg N1, .bool true], .pointer (some ⟨g12, 0, none⟩), .agg Nm, .int .u64 (d : Int), .agg Ud, .tuple #[.agg N1, .bool true], .agg N1, .bool true, .tuple #[.agg D1, .bool true], .int .i64 v, .agg Vv, .int .i64 base, .agg Bb, .tuple #[.agg D1, .bool true], .agg D1, .bool true, .tuple #[.agg D2, .bool true], .agg D1, .pointer (some ⟨g12, 5, none⟩), .agg Dn, .tuple #[.agg D2, .bool true], .agg D2, .bool true, .tuple #[.agg N2, .bool true], .agg N1, .agg D2, .tuple #[.agg N2, .bool true], .agg N2, .bool true, .pointer (some ⟨g13, 0, none⟩), u98, u99, u100, u101, u102, u103, u104, u105, u106, u107, u108, u109, u110, u111, u112, u113, u114, u115, u116, u117, u118, u119, u120, u121, u122, u123, u124, u125, u126, u127, u128, u129, u130, u131, u132, u133, u134, u135, u136, u137, u138, u139, undef], defers := [] }) (by intro R G; kernel_rfl) (fun _ => rfl) (by kernel_rfl) (by kernel_rfl) (by kernel_rfl) rfl (fun _ => rfl) (fun _ h => h.elim) (fun _ _ h => h) (by intro c hc; simp at hc; (try subst hc); (try simp only); omega) (by intro c c' h1 h2 _; simp at h1 h2; omega) (fun R R' => ⟨fun _ => rfl, fun _ => rfl, trivial⟩) (fun _ _ _ _ => rfl) xe_below EE.out ?ops377 ?end377
             case ops377 =>
               refine ⟨?_, ?_, trivial⟩
               · refine er_q ?vn376 ?hn376 ?kn376 ?gn376 ?_
                 case hn376 => exact rfl
                 case vn376 => exact (fun R => .pointer (some ⟨g13, 0, none⟩))
                 case kn376 => exact (fun R => rfl)
                 case gn376 => exact gd_none rfl
                 intro R s w' hT hs hw ha
                 go_simp
               · refine er_so (c := 0) (Ty := ?Tn377) (p := ?pn377) (x := ?xn377) g13 ?fn377 ?un377 ?vn377 ?hn377 ?on377 ?kn377 ?ln377 ?gn377 ?dn377 ?en377 ?_
                 case hn377 => exact rfl
                 case on377 => exact rfl
                 case fn377 => exact (fun R => (.cells N3 25 (0, 0)))
                 case un377 => exact (fun R => .pointer (some ⟨g13, 0, none⟩))
                 case vn377 => exact (fun R => .bool false)
                 case kn377 => exact (fun R => rfl)
                 case ln377 => exact rfl
                 case gn377 => exact gd_none rfl
                 case dn377 =>
                   intro R
                   kernel_rfl
                 case en377 =>
                   intro R
                   kernel_rfl
                 intro R s ρ w hT hs hp hx hz
                 have hB := (show Blk w g13 _ N2 from hz.trans P13)
                 have hc := (hB.cell 0).trans (n0')
                 have hf := hB.frozen 0
                 refine ⟨store_at (g := g13) (Ty := 4) rfl hp hx (hz.trans P13) (n1') ?_, fun w1 hF => ext_filled hT hF P13_lo⟩
                 go_simp
             case end377 =>
              intro sI R G w378 hI FF hFF
              have hS := hI.same
              have hTT := hI.holds
              have hz0 := EE.out.size
              replace P8 := P8.sameE hS (fun h => h) (by intro c hc; simp at hc; (try subst hc); (try simp only); omega)
              replace PL := PL.sameE hS (fun h => h) (by intro c hc; simp at hc; (try subst hc); (try simp only); omega)
              replace P12 := P12.sameE hS (fun h => h) (by intro c hc; simp at hc; (try subst hc); (try simp only); omega)
              replace P15 := P15.sameE hS (fun h => h) (by intro c hc; simp at hc; (try subst hc); (try simp only); omega)
              replace P13 : Blk w378 g13 25 N3 := hI.olds' 1 (List.mem_range.2 (show 1 < 2 by decide)) 0 rfl
              replace EE := hide (show Ext _ _ from hTT)
              clear hS hz0 hTT hI P8_lt PL_lt P12_lt P13_lt P15_lt
              dsimp only at hFF
              subst hFF
              go_upto_region 16 with fail
              have P8_lt := P8.lt
              have PL_lt := PL.lt
              have P12_lt := P12.lt
              have P13_lt := P13.lt
              have P15_lt := P15.lt
              refine wp_evA [.q, .q, .q, .q, .q, .q, .q, .q, .al, .st 8, .q] [0, 0, 0, 0, 0, 0, 0, 0, 0, 0, 0] (fun R => [.int .i64 eps, .agg Ee, .pointer (some ⟨g12, 5, none⟩), .agg Dn, .tuple #[.agg M1, .bool true], .tuple #[.agg M1, .bool true], .agg M1, .bool true, undef, undef, .bool true]) (fun _ => (.cells z5 25 (0, 0))) (fun R _ => (.cells M1 25 (0, 0))) (fun _ => 0) (XE wr) (fun _ => False) _ (fun R G => { tmps := #[.slice x len cap, undef, u2, .pointer (some ⟨b, 0, none⟩), .int .i64 base, .int .i64 v, .int .i64 eps, .int .u64 (d : Int), .pointer (some ⟨g8, 0, none⟩), .bool true, .slice (some ⟨gl, 0, none⟩) 4 4, .int .i64 (k : Int), .pointer (some ⟨g12, 0, none⟩), .pointer (some ⟨g13, 0, none⟩), .bool true, .pointer (some ⟨g15, 0, none⟩), .bool true, .pointer (some ⟨G 8, 0, none⟩), .bool true, u19, u20, u21, .slice x len cap, .pointer (some ⟨b, 0, none⟩), .pointer (some ⟨b, 0, none⟩), .int .i64 base, .pointer (some ⟨b, 0, none⟩), .int .i64 v, .pointer (some ⟨b, 0, none⟩), .int .i64 eps, .pointer (some ⟨b, 0, none⟩), .int .u64 (xw : Int), .pointer (some ⟨b, 0, none⟩), .int .i64 (y : Int), .int .i64 (q : Int), .int .u64 (q : Int), .int .u64 (r : Int), .int .u64 (d : Int), .tuple #[.agg C, .bool true], .int .i64 base, .agg (wC base), .int .i64 v, .int .i64 eps, .int .u64 (d : Int), .tuple #[.agg C, .bool true], .agg C, .bool true, .bool true, .bool false, .pointer (some ⟨g8, 1, none⟩), .agg (frC f0), .pointer (some ⟨g8, 11, none⟩), .agg (frC f1), .agg C, .agg (frC s4), .pointer (some ⟨b, 0, none⟩), .agg (frC (n0, d0)), .slice (some ⟨gl, 0, none⟩) 4 4, .int .i64 (k : Int), .slice (some ⟨gl, 0, none⟩) 4 4, .int .i64 4, .bool true, u62, u63, .slice (some ⟨gl, 0, none⟩) 4 4, .int .i64 (k : Int), .pointer (some ⟨gl, kx, none⟩), .agg S, .tuple #[.agg N1, .bool true], .pointer (some ⟨g12, 0, none⟩), .agg Nm, .int .u64 (d : Int), .agg Ud, .tuple #[.agg N1, .bool true], .agg N1, .bool true, .tuple #[.agg D1, .bool true], .int .i64 v, .agg Vv, .int .i64 base, .agg Bb, .tuple #[.agg D1, .bool true], .agg D1, .bool true, .tuple #[.agg D2, .bool true], .agg D1, .pointer (some ⟨g12, 5, none⟩), .agg Dn, .tuple #[.agg D2, .bool true], .agg D2, .bool true, .tuple #[.agg N2, .bool true], .agg N1, .agg D2, .tuple #[.agg N2, .bool true], .agg N2, .bool true, .pointer (some ⟨g13, 0, none⟩), .tuple #[.agg M1, .bool true], .int .i64 eps, .agg Ee, .pointer (some ⟨g12, 5, none⟩), .agg Dn, .tuple #[.agg M1, .bool true], .agg M1, .bool true, u106, u107, u108, u109, u110, u111, u112, u113, u114, u115, u116, u117, u118, u119, u120, u121, u122, u123, u124, u125, u126, u127, u128, u129, u130, u131, u132, u133, u134, u135, u136, u137, u138, u139, undef], defers := [] }) (by intro R G; kernel_rfl) (fun _ => rfl) (by kernel_rfl) (by kernel_rfl) (by kernel_rfl) (by kernel_rfl) rfl (fun _ => rfl) (fun _ h => h.elim) (fun _ _ h => h) (by simp) (by simp) (fun R R' => ⟨fun _ => rfl, fun _ => rfl, fun _ => rfl, fun _ => rfl, fun _ => rfl, fun _ => rfl, fun _ => rfl, fun _ => rfl, fun _ => rfl, fun _ => rfl, fun _ => rfl, trivial⟩) (fun _ _ _ _ => rfl) xe_below (EE.out.trans (ext_drew _)) ?ops389 ?end389
              case ops389 =>
                refine ⟨?_, ?_, ?_, ?_, ?_, ?_, ?_, ?_, ?_, ?_, ?_, trivial⟩
                · refine er_q ?vn379 ?hn379 ?kn379 ?gn379 ?_
                  case hn379 => exact rfl
                  case vn379 => exact (fun R => .int .i64 eps)
                  case kn379 => exact (fun R => rfl)
                  case gn379 => exact gd_none rfl
                  intro R s w' hT hs hw ha
                  go_simp
                · refine er_q ?vn380 ?hn380 ?kn380 ?gn380 ?_
                  case hn380 => exact rfl
                  case vn380 => exact (fun R => .agg Ee)
                  case kn380 => exact (fun R => rfl)
                  case gn380 => exact gd_none rfl
                  intro R s w' hT hs hw ha
                  go_simp
                  exact k8.out w'
                · refine er_q ?vn381 ?hn381 ?kn381 ?gn381 ?_
                  case hn381 => exact rfl
                  case vn381 => exact (fun R => .pointer (some ⟨g12, 5, none⟩))
                  case kn381 => exact (fun R => rfl)
                  case gn381 => exact gd_none rfl
                  intro R s w' hT hs hw ha
                  go_simp
                · refine er_q ?vn382 ?hn382 ?kn382 ?gn382 ?_
                  case hn382 => exact rfl
                  case vn382 => exact (fun R => .agg Dn)
                  case kn382 => exact (fun R => rfl)
                  case gn382 => exact gd_none rfl
                  intro R s w' hT hs hw ha
                  have L := run_load_part (P12.sameE hw (fun h => h) (by simp)) _ _ uWide rfl 5 5 iWide (by rw [sS]; first | decide | omega) _ (g1')
                  refine q_load rfl ?_ L
                  kernel_rfl
                · refine er_q ?vn383 ?hn383 ?kn383 ?gn383 ?_
                  case hn383 => exact rfl
                  case vn383 => exact (fun R => .tuple #[.agg M1, .bool true])
                  case kn383 => exact (fun R => rfl)
                  case gn383 => exact gd_none rfl
                  intro R s w' hT hs hw ha
                  go_simp
                  exact k9.out w'
                · refine er_q ?vn384 ?hn384 ?kn384 ?gn384 ?_
                  case hn384 => exact rfl
                  case vn384 => exact (fun R => .tuple #[.agg M1, .bool true])
                  case kn384 => exact (fun R => rfl)
                  case gn384 => exact gd_none rfl
                  intro R s w' hT hs hw ha
                  go_simp
                · refine er_q ?vn385 ?hn385 ?kn385 ?gn385 ?_
                  case hn385 => exact rfl
                  case vn385 => exact (fun R => .agg M1)
                  case kn385 => exact (fun R => rfl)
                  case gn385 => exact gd_none rfl
                  intro R s w' hT hs hw ha
                  go_simp
                · refine er_q ?vn386 ?hn386 ?kn386 ?gn386 ?_
                  case hn386 => exact rfl
                  case vn386 => exact (fun R => .bool true)
                  case kn386 => exact (fun R => rfl)
                  case gn386 => exact gd_none rfl
                  intro R s w' hT hs hw ha
                  go_simp
                · refine er_al ?zn387 ?hn387 ?kn387 ?gn387 ?_
                  case zn387 => exact (.cells z5 25 (0, 0))
                  case hn387 => exact rfl
                  case kn387 => exact rfl
                  case gn387 => exact gd_none rfl
                  intro ρ w'
                  go_simp
                  exact ⟨rfl, rfl⟩
                · refine er_st (j := 8) (Ty := ?Tn388) (p := ?pn388) (x := ?xn388) ?fn388 ?zn388 ?vn388 ?hn388 ?on388 ?kn388 ?ln388 ?gn388 ?en388 ?_
                  case hn388 => exact rfl
                  case on388 => exact rfl
                  case fn388 => exact (fun R => (.cells M1 25 (0, 0)))
                  case zn388 => exact (.cells z5 25 (0, 0))
                  case vn388 => exact (fun R => .agg M1)
                  case kn388 => exact (fun R => rfl)
                  case ln388 => exact rfl
                  case gn388 => exact gd_none rfl
                  case en388 =>
                    intro R
                    kernel_rfl
                  intro R s ρ w g hT hs hp hx hg hz
                  exact ⟨store_row rfl hp hx hz iWide (sM1) (oM1), fun w1 hF => ext_filled hT hF (Nat.le_trans EE.out.size hg)⟩
                · refine er_q ?vn389 ?hn389 ?kn389 ?gn389 ?_
                  case hn389 => exact rfl
                  case vn389 => exact (fun R => .bool true)
                  case kn389 => exact (fun R => rfl)
                  case gn389 => exact gd_none rfl
                  intro R s w' hT hs hw ha
                  go_simp
              case end389 =>
               intro sI R G w390 hI FF hFF
               have hS := hI.same
               have hTT := hI.holds
               have hz0 := EE.out.size
               replace P8 := P8.sameE hS (fun h => h) (by simp)
               replace PL := PL.sameE hS (fun h => h) (by simp)
               replace P12 := P12.sameE hS (fun h => h) (by simp)
               replace P13 := P13.sameE hS (fun h => h) (by simp)
               replace P15 := P15.sameE hS (fun h => h) (by simp)
               have P17 : Blk w390 (G 8) 25 M1 := (hI.fulls 9 (List.mem_range.2 (show 9 < 11 by decide)) 8 rfl).2.2
               have hmP17 := (hI.made 8 (List.mem_range.2 (show 8 < 11 by decide)) rfl).1
               have P17_lo : wr.heap.size ≤ G 8 := Nat.le_trans hz0 hmP17
               have ngP8_17 : g8 ≠ G 8 := by omega
               have ngPL_17 : gl ≠ G 8 := by omega
               have ngP12_17 : g12 ≠ G 8 := by omega
               have ngP13_17 : g13 ≠ G 8 := by omega
               have ngP15_17 : g15 ≠ G 8 := by omega
               replace EE := hide (show Ext _ _ from hTT)
               clear hS hz0 hTT hI P8_lt PL_lt P12_lt P13_lt P15_lt
               dsimp only at hFF
               subst hFF
               generalize G 8 = g17 at *
               go_upto_region 17 with fail
               have P8_lt := P8.lt
               have PL_lt := PL.lt
               have P12_lt := P12.lt
               have P13_lt := P13.lt
               have P15_lt := P15.lt
               have P17_lt := P17.lt
               refine wp_evsA [.q, .q, .q, .q, .q] [0, 0, 0, 0, 0] (fun R => [.agg N3, .agg M1, .int .i64 rc, .bool fits, .bool fits]) (fun _ => (.cells #[] 0 (0, 0))) (fun R _ => (.cells #[] 0 (0, 0))) (fun _ => 0) (XE wr) (fun _ => False) _ (fun R G => { tmps := #[.slice x len cap, undef, u2, .pointer (some ⟨b, 0, none⟩), .int .i64 base, .int .i64 v, .int .i64 eps, .int .u64 (d : Int), .pointer (some ⟨g8, 0, none⟩), .bool true, .slice (some ⟨gl, 0, none⟩) 4 4, .int .i64 (k : Int), .pointer (some ⟨g12, 0, none⟩), .pointer (some ⟨g13, 0, none⟩), .bool true, .pointer (some ⟨g15, 0, none⟩), .bool true, .pointer (some ⟨g17, 0, none⟩), .bool true, .bool fits, u20, u21, .slice x len cap, .pointer (some ⟨b, 0, none⟩), .pointer (some ⟨b, 0, none⟩), .int .i64 base, .pointer (some ⟨b, 0, none⟩), .int .i64 v, .pointer (some ⟨b, 0, none⟩), .int .i64 eps, .pointer (some ⟨b, 0, none⟩), .int .u64 (xw : Int), .pointer (some ⟨b, 0, none⟩), .int .i64 (y : Int), .int .i64 (q : Int), .int .u64 (q : Int), .int .u64 (r : Int), .int .u64 (d : Int), .tuple #[.agg C, .bool true], .int .i64 base, .agg (wC base), .int .i64 v, .int .i64 eps, .int .u64 (d : Int), .tuple #[.agg C, .bool true], .agg C, .bool true, .bool true, .bool false, .pointer (some ⟨g8, 1, none⟩), .agg (frC f0), .pointer (some ⟨g8, 11, none⟩), .agg (frC f1), .agg C, .agg (frC s4), .pointer (some ⟨b, 0, none⟩), .agg (frC (n0, d0)), .slice (some ⟨gl, 0, none⟩) 4 4, .int .i64 (k : Int), .slice (some ⟨gl, 0, none⟩) 4 4, .int .i64 4, .bool true, u62, u63, .slice (some ⟨gl, 0, none⟩) 4 4, .int .i64 (k : Int), .pointer (some ⟨gl, kx, none⟩), .agg S, .tuple #[.agg N1, .bool true], .pointer (some ⟨g12, 0, none⟩), .agg Nm, .int .u64 (d : Int), .agg Ud, .tuple #[.agg N1, .bool true], .agg N1, .bool true, .tuple #[.agg D1, .bool true], .int .i64 v, .agg Vv, .int .i64 base, .agg Bb, .tuple #[.agg D1, .bool true], .agg D1, .bool true, .tuple #[.agg D2, .bool true], .agg D1, .pointer (some ⟨g12, 5, none⟩), .agg Dn, .tuple #[.agg D2, .bool true], .agg D2, .bool true, .tuple #[.agg N2, .bool true], .agg N1, .agg D2, .tuple #[.agg N2, .bool true], .agg N2, .bool true, .pointer (some ⟨g13, 0, none⟩), .tuple #[.agg M1, .bool true], .int .i64 eps, .agg Ee, .pointer (some ⟨g12, 5, none⟩), .agg Dn, .tuple #[.agg M1, .bool true], .agg M1, .bool true, .agg N3, .agg M1, .int .i64 rc, .bool fits, u110, u111, u112, u113, u114, u115, u116, u117, u118, u119, u120, u121, u122, u123, u124, u125, u126, u127, u128, u129, u130, u131, u132, u133, u134, u135, u136, u137, u138, u139, undef], defers := [] }) (by intro R G; kernel_rfl) (fun _ => rfl) (by kernel_rfl) (by kernel_rfl) (by kernel_rfl) rfl (fun _ => rfl) (fun _ h => h.elim) (fun _ _ h => h) (by simp) (by simp) (fun R R' => ⟨fun _ => rfl, fun _ => rfl, fun _ => rfl, fun _ => rfl, fun _ => rfl, trivial⟩) (fun _ _ _ _ => rfl) xe_below EE.out ?ops395 ?end395
               case ops395 =>
                 refine ⟨?_, ?_, ?_, ?_, ?_, trivial⟩
                 · refine er_q ?vn391 ?hn391 ?kn391 ?gn391 ?_
                   case hn391 => exact rfl
                   case vn391 => exact (fun R => .agg N3)
                   case kn391 => exact (fun R => rfl)
                   case gn391 => exact gd_none rfl
                   intro R s w' hT hs hw ha
                   have L := ld_all (P13.sameE hw (fun h => h) (by simp)) uWide rfl iWide sN3
                   refine q_load rfl ?_ L
                   kernel_rfl
                 · refine er_q ?vn392 ?hn392 ?kn392 ?gn392 ?_
                   case hn392 => exact rfl
                   case vn392 => exact (fun R => .agg M1)
                   case kn392 => exact (fun R => rfl)
                   case gn392 => exact gd_none rfl
                   intro R s w' hT hs hw ha
                   have L := ld_all (P17.sameE hw (fun h => h) (by simp)) uWide rfl iWide sM1
                   refine q_load rfl ?_ L
                   kernel_rfl
                 · refine er_q ?vn393 ?hn393 ?kn393 ?gn393 ?_
                   case hn393 => exact rfl
                   case vn393 => exact (fun R => .int .i64 rc)
                   case kn393 => exact (fun R => rfl)
                   case gn393 => exact gd_none rfl
                   intro R s w' hT hs hw ha
                   go_simp
                   exact k10.out w'
                 · refine er_q ?vn394 ?hn394 ?kn394 ?gn394 ?_
                   case hn394 => exact rfl
                   case vn394 => exact (fun R => .bool fits)
                   case kn394 => exact (fun R => rfl)
                   case gn394 => exact gd_none rfl
                   intro R s w' hT hs hw ha
                   go_simp
                 · refine er_q ?vn395 ?hn395 ?kn395 ?gn395 ?_
                   case hn395 => exact rfl
                   case vn395 => exact (fun R => .bool fits)
                   case kn395 => exact (fun R => rfl)
                   case gn395 => exact gd_none rfl
                   intro R s w' hT hs hw ha
                   go_simp
               case end395 =>
                intro sI R G w396 hI FF hFF
                have hS := hI.same
                have hTT := hI.holds
                have hz0 := EE.out.size
                replace P8 := P8.sameE hS (fun h => h) (by simp)
                replace PL := PL.sameE hS (fun h => h) (by simp)
                replace P12 := P12.sameE hS (fun h => h) (by simp)
                replace P13 := P13.sameE hS (fun h => h) (by simp)
                replace P15 := P15.sameE hS (fun h => h) (by simp)
                replace P17 := P17.sameE hS (fun h => h) (by simp)
                replace EE := hide (show Ext _ _ from hTT)
                clear hS hz0 hTT hI P8_lt PL_lt P12_lt P13_lt P15_lt P17_lt
                dsimp only at hFF
                subst hFF
                go_upto_region 18 with fail
                have P8_lt := P8.lt
                have PL_lt := PL.lt
                have P12_lt := P12.lt
                have P13_lt := P13.lt
                have P15_lt := P15.lt
                have P17_lt := P17.lt
                refine wp_evsA [.q, .q, .q, .q, .q] [0, 0, 0, 0, 0] (fun R => [.agg C, .agg S, .bool fits, .bool fits, .bool false]) (fun _ => (.cells #[] 0 (0, 0))) (fun R _ => (.cells #[] 0 (0, 0))) (fun _ => 0) (XE wr) (fun _ => False) _ (fun R G => { tmps := #[.slice x len cap, undef, u2, .pointer (some ⟨b, 0, none⟩), .int .i64 base, .int .i64 v, .int .i64 eps, .int .u64 (d : Int), .pointer (some ⟨g8, 0, none⟩), .bool true, .slice (some ⟨gl, 0, none⟩) 4 4, .int .i64 (k : Int), .pointer (some ⟨g12, 0, none⟩), .pointer (some ⟨g13, 0, none⟩), .bool true, .pointer (some ⟨g15, 0, none⟩), .bool true, .pointer (some ⟨g17, 0, none⟩), .bool true, .bool fits, u20, u21, .slice x len cap, .pointer (some ⟨b, 0, none⟩), .pointer (some ⟨b, 0, none⟩), .int .i64 base, .pointer (some ⟨b, 0, none⟩), .int .i64 v, .pointer (some ⟨b, 0, none⟩), .int .i64 eps, .pointer (some ⟨b, 0, none⟩), .int .u64 (xw : Int), .pointer (some ⟨b, 0, none⟩), .int .i64 (y : Int), .int .i64 (q : Int), .int .u64 (q : Int), .int .u64 (r : Int), .int .u64 (d : Int), .tuple #[.agg C, .bool true], .int .i64 base, .agg (wC base), .int .i64 v, .int .i64 eps, .int .u64 (d : Int), .tuple #[.agg C, .bool true], .agg C, .bool true, .bool true, .bool false, .pointer (some ⟨g8, 1, none⟩), .agg (frC f0), .pointer (some ⟨g8, 11, none⟩), .agg (frC f1), .agg C, .agg (frC s4), .pointer (some ⟨b, 0, none⟩), .agg (frC (n0, d0)), .slice (some ⟨gl, 0, none⟩) 4 4, .int .i64 (k : Int), .slice (some ⟨gl, 0, none⟩) 4 4, .int .i64 4, .bool true, u62, u63, .slice (some ⟨gl, 0, none⟩) 4 4, .int .i64 (k : Int), .pointer (some ⟨gl, kx, none⟩), .agg S, .tuple #[.agg N1, .bool true], .pointer (some ⟨g12, 0, none⟩), .agg Nm, .int .u64 (d : Int), .agg Ud, .tuple #[.agg N1, .bool true], .agg N1, .bool true, .tuple #[.agg D1, .bool true], .int .i64 v, .agg Vv, .int .i64 base, .agg Bb, .tuple #[.agg D1, .bool true], .agg D1, .bool true, .tuple #[.agg D2, .bool true], .agg D1, .pointer (some ⟨g12, 5, none⟩), .agg Dn, .tuple #[.agg D2, .bool true], .agg D2, .bool true, .tuple #[.agg N2, .bool true], .agg N1, .agg D2, .tuple #[.agg N2, .bool true], .agg N2, .bool true, .pointer (some ⟨g13, 0, none⟩), .tuple #[.agg M1, .bool true], .int .i64 eps, .agg Ee, .pointer (some ⟨g12, 5, none⟩), .agg Dn, .tuple #[.agg M1, .bool true], .agg M1, .bool true, .agg N3, .agg M1, .int .i64 rc, .bool fits, .agg C, .agg S, .bool fits, .bool fits, .bool false, u115, u116, u117, u118, u119, u120, u121, u122, u123, u124, u125, u126, u127, u128, u129, u130, u131, u132, u133, u134, u135, u136, u137, u138, u139, undef], defers := [] }) (by intro R G; kernel_rfl) (fun _ => rfl) (by kernel_rfl) (by kernel_rfl) (by kernel_rfl) rfl (fun _ => rfl) (fun _ h => h.elim) (fun _ _ h => h) (by simp) (by simp) (fun R R' => ⟨fun _ => rfl, fun _ => rfl, fun _ => rfl, fun _ => rfl, fun _ => rfl, trivial⟩) (fun _ _ _ _ => rfl) xe_below EE.out ?ops401 ?end401
                case ops401 =>
                  refine ⟨?_, ?_, ?_, ?_, ?_, trivial⟩
                  · refine er_q ?vn397 ?hn397 ?kn397 ?gn397 ?_
                    case hn397 => exact rfl
                    case vn397 => exact (fun R => .agg C)
                    case kn397 => exact (fun R => rfl)
                    case gn397 => exact gd_none rfl
                    intro R s w' hT hs hw ha
                    have L := ld_all (P8.sameE hw (fun h => h) (by simp)) uCone rfl iCone sC
                    refine q_load rfl ?_ L
                    kernel_rfl
                  · refine er_q ?vn398 ?hn398 ?kn398 ?gn398 ?_
                    case hn398 => exact rfl
                    case vn398 => exact (fun R => .agg S)
                    case kn398 => exact (fun R => rfl)
                    case gn398 => exact gd_none rfl
                    intro R s w' hT hs hw ha
                    have L := ld_all (P12.sameE hw (fun h => h) (by simp)) uRat rfl iRat sS
                    refine q_load rfl ?_ L
                    kernel_rfl
                  · refine er_q ?vn399 ?hn399 ?kn399 ?gn399 ?_
                    case hn399 => exact rfl
                    case vn399 => exact (fun R => .bool fits)
                    case kn399 => exact (fun R => rfl)
                    case gn399 => exact gd_none rfl
                    intro R s w' hT hs hw ha
                    go_simp
                    exact k11.out w'
                  · refine er_q ?vn400 ?hn400 ?kn400 ?gn400 ?_
                    case hn400 => exact rfl
                    case vn400 => exact (fun R => .bool fits)
                    case kn400 => exact (fun R => rfl)
                    case gn400 => exact gd_none rfl
                    intro R s w' hT hs hw ha
                    go_simp
                  · refine er_q ?vn401 ?hn401 ?kn401 ?gn401 ?_
                    case hn401 => exact rfl
                    case vn401 => exact (fun R => .bool false)
                    case kn401 => exact (fun R => rfl)
                    case gn401 => exact gd_none rfl
                    intro R s w' hT hs hw ha
                    go_simp
                case end401 =>
                 intro sI R G w402 hI FF hFF
                 have hS := hI.same
                 have hTT := hI.holds
                 have hz0 := EE.out.size
                 replace P8 := P8.sameE hS (fun h => h) (by simp)
                 replace PL := PL.sameE hS (fun h => h) (by simp)
                 replace P12 := P12.sameE hS (fun h => h) (by simp)
                 replace P13 := P13.sameE hS (fun h => h) (by simp)
                 replace P15 := P15.sameE hS (fun h => h) (by simp)
                 replace P17 := P17.sameE hS (fun h => h) (by simp)
                 replace EE := hide (show Ext _ _ from hTT)
                 clear hS hz0 hTT hI P8_lt PL_lt P12_lt P13_lt P15_lt P17_lt
                 dsimp only at hFF
                 subst hFF
                 go_upto_region 20 with fail
                 have P8_lt := P8.lt
                 have PL_lt := PL.lt
                 have P12_lt := P12.lt
                 have P13_lt := P13.lt
                 have P15_lt := P15.lt
                 have P17_lt := P17.lt
                 refine wp_evA [.q, .q, .q, .q, .q, .q, .q, .q, .q, .al, .st 9, .q] [0, 0, 0, 0, 0, 0, 0, 0, 0, 0, 0, 0] (fun R => [.int .i64 base, .agg Bb, .agg S, .int .u64 (d : Int), .agg Q1, .tuple #[.agg R1, .bool true], .tuple #[.agg R1, .bool true], .agg R1, .bool true, undef, undef, .bool true]) (fun _ => (.cells z5 25 (0, 0))) (fun R _ => (.cells R1 25 (0, 0))) (fun _ => 0) (XE wr) (fun _ => False) _ (fun R G => { tmps := #[.slice x len cap, undef, u2, .pointer (some ⟨b, 0, none⟩), .int .i64 base, .int .i64 v, .int .i64 eps, .int .u64 (d : Int), .pointer (some ⟨g8, 0, none⟩), .bool true, .slice (some ⟨gl, 0, none⟩) 4 4, .int .i64 (k : Int), .pointer (some ⟨g12, 0, none⟩), .pointer (some ⟨g13, 0, none⟩), .bool true, .pointer (some ⟨g15, 0, none⟩), .bool true, .pointer (some ⟨g17, 0, none⟩), .bool true, .bool fits, .pointer (some ⟨G 9, 0, none⟩), .bool true, .slice x len cap, .pointer (some ⟨b, 0, none⟩), .pointer (some ⟨b, 0, none⟩), .int .i64 base, .pointer (some ⟨b, 0, none⟩), .int .i64 v, .pointer (some ⟨b, 0, none⟩), .int .i64 eps, .pointer (some ⟨b, 0, none⟩), .int .u64 (xw : Int), .pointer (some ⟨b, 0, none⟩), .int .i64 (y : Int), .int .i64 (q : Int), .int .u64 (q : Int), .int .u64 (r : Int), .int .u64 (d : Int), .tuple #[.agg C, .bool true], .int .i64 base, .agg (wC base), .int .i64 v, .int .i64 eps, .int .u64 (d : Int), .tuple #[.agg C, .bool true], .agg C, .bool true, .bool true, .bool false, .pointer (some ⟨g8, 1, none⟩), .agg (frC f0), .pointer (some ⟨g8, 11, none⟩), .agg (frC f1), .agg C, .agg (frC s4), .pointer (some ⟨b, 0, none⟩), .agg (frC (n0, d0)), .slice (some ⟨gl, 0, none⟩) 4 4, .int .i64 (k : Int), .slice (some ⟨gl, 0, none⟩) 4 4, .int .i64 4, .bool true, u62, u63, .slice (some ⟨gl, 0, none⟩) 4 4, .int .i64 (k : Int), .pointer (some ⟨gl, kx, none⟩), .agg S, .tuple #[.agg N1, .bool true], .pointer (some ⟨g12, 0, none⟩), .agg Nm, .int .u64 (d : Int), .agg Ud, .tuple #[.agg N1, .bool true], .agg N1, .bool true, .tuple #[.agg D1, .bool true], .int .i64 v, .agg Vv, .int .i64 base, .agg Bb, .tuple #[.agg D1, .bool true], .agg D1, .bool true, .tuple #[.agg D2, .bool true], .agg D1, .pointer (some ⟨g12, 5, none⟩), .agg Dn, .tuple #[.agg D2, .bool true], .agg D2, .bool true, .tuple #[.agg N2, .bool true], .agg N1, .agg D2, .tuple #[.agg N2, .bool true], .agg N2, .bool true, .pointer (some ⟨g13, 0, none⟩), .tuple #[.agg M1, .bool true], .int .i64 eps, .agg Ee, .pointer (some ⟨g12, 5, none⟩), .agg Dn, .tuple #[.agg M1, .bool true], .agg M1, .bool true, .agg N3, .agg M1, .int .i64 rc, .bool fits, .agg C, .agg S, .bool fits, .bool fits, .bool false, .tuple #[.agg R1, .bool true], .int .i64 base, .agg Bb, .agg S, .int .u64 (d : Int), .agg Q1, .tuple #[.agg R1, .bool true], .agg R1, .bool true, u124, u125, u126, u127, u128, u129, u130, u131, u132, u133, u134, u135, u136, u137, u138, u139, undef], defers := [] }) (by intro R G; kernel_rfl) (fun _ => rfl) (by kernel_rfl) (by kernel_rfl) (by kernel_rfl) (by kernel_rfl) rfl (fun _ => rfl) (fun _ h => h.elim) (fun _ _ h => h) (by simp) (by simp) (fun R R' => ⟨fun _ => rfl, fun _ => rfl, fun _ => rfl, fun _ => rfl, fun _ => rfl, fun _ => rfl, fun _ => rfl, fun _ => rfl, fun _ => rfl, fun _ => rfl, fun _ => rfl, fun _ => rfl, trivial⟩) (fun _ _ _ _ => rfl) xe_below (EE.out.trans (ext_drew _)) ?ops414 ?end414
                 case ops414 =>
                   refine ⟨?_, ?_, ?_, ?_, ?_, ?_, ?_, ?_, ?_, ?_, ?_, ?_, trivial⟩
                   · refine er_q ?vn403 ?hn403 ?kn403 ?gn403 ?_
                     case hn403 => exact rfl
                     case vn403 => exact (fun R => .int .i64 base)
                     case kn403 => exact (fun R => rfl)
                     case gn403 => exact gd_none rfl
                     intro R s w' hT hs hw ha
                     go_simp
                   · refine er_q ?vn404 ?hn404 ?kn404 ?gn404 ?_
                     case hn404 => exact rfl
                     case vn404 => exact (fun R => .agg Bb)
                     case kn404 => exact (fun R => rfl)
                     case gn404 => exact gd_none rfl
                     intro R s w' hT hs hw ha
                     go_simp
                     exact k4.out w'
                   · refine er_q ?vn405 ?hn405 ?kn405 ?gn405 ?_
                     case hn405 => exact rfl
                     case vn405 => exact (fun R => .agg S)
                     case kn405 => exact (fun R => rfl)
                     case gn405 => exact gd_none rfl
                     intro R s w' hT hs hw ha
                     have L := ld_all (P12.sameE hw (fun h => h) (by simp)) uRat rfl iRat sS
                     refine q_load rfl ?_ L
                     kernel_rfl
                   · refine er_q ?vn406 ?hn406 ?kn406 ?gn406 ?_
                     case hn406 => exact rfl
                     case vn406 => exact (fun R => .int .u64 (d : Int))
                     case kn406 => exact (fun R => rfl)
                     case gn406 => exact gd_none rfl
                     intro R s w' hT hs hw ha
                     go_simp
                   · refine er_q ?vn407 ?hn407 ?kn407 ?gn407 ?_
                     case hn407 => exact rfl
                     case vn407 => exact (fun R => .agg Q1)
                     case kn407 => exact (fun R => rfl)
                     case gn407 => exact gd_none rfl
                     intro R s w' hT hs hw ha
                     go_simp
                     exact k12.out w'
                   · refine er_q ?vn408 ?hn408 ?kn408 ?gn408 ?_
                     case hn408 => exact rfl
                     case vn408 => exact (fun R => .tuple #[.agg R1, .bool true])
                     case kn408 => exact (fun R => rfl)
                     case gn408 => exact gd_none rfl
                     intro R s w' hT hs hw ha
                     go_simp
                     exact k13.out w'
                   · refine er_q ?vn409 ?hn409 ?kn409 ?gn409 ?_
                     case hn409 => exact rfl
                     case vn409 => exact (fun R => .tuple #[.agg R1, .bool true])
                     case kn409 => exact (fun R => rfl)
                     case gn409 => exact gd_none rfl
                     intro R s w' hT hs hw ha
                     go_simp
                   · refine er_q ?vn410 ?hn410 ?kn410 ?gn410 ?_
                     case hn410 => exact rfl
                     case vn410 => exact (fun R => .agg R1)
                     case kn410 => exact (fun R => rfl)
                     case gn410 => exact gd_none rfl
                     intro R s w' hT hs hw ha
                     go_simp
                   · refine er_q ?vn411 ?hn411 ?kn411 ?gn411 ?_
                     case hn411 => exact rfl
                     case vn411 => exact (fun R => .bool true)
                     case kn411 => exact (fun R => rfl)
                     case gn411 => exact gd_none rfl
                     intro R s w' hT hs hw ha
                     go_simp
                   · refine er_al ?zn412 ?hn412 ?kn412 ?gn412 ?_
                     case zn412 => exact (.cells z5 25 (0, 0))
                     case hn412 => exact rfl
                     case kn412 => exact rfl
                     case gn412 => exact gd_none rfl
                     intro ρ w'
                     go_simp
                     exact ⟨rfl, rfl⟩
                   · refine er_st (j := 9) (Ty := ?Tn413) (p := ?pn413) (x := ?xn413) ?fn413 ?zn413 ?vn413 ?hn413 ?on413 ?kn413 ?ln413 ?gn413 ?en413 ?_
                     case hn413 => exact rfl
                     case on413 => exact rfl
                     case fn413 => exact (fun R => (.cells R1 25 (0, 0)))
                     case zn413 => exact (.cells z5 25 (0, 0))
                     case vn413 => exact (fun R => .agg R1)
                     case kn413 => exact (fun R => rfl)
                     case ln413 => exact rfl
                     case gn413 => exact gd_none rfl
                     case en413 =>
                       intro R
                       kernel_rfl
                     intro R s ρ w g hT hs hp hx hg hz
                     exact ⟨store_row rfl hp hx hz iWide (sR1) (oR1), fun w1 hF => ext_filled hT hF (Nat.le_trans EE.out.size hg)⟩
                   · refine er_q ?vn414 ?hn414 ?kn414 ?gn414 ?_
                     case hn414 => exact rfl
                     case vn414 => exact (fun R => .bool true)
                     case kn414 => exact (fun R => rfl)
                     case gn414 => exact gd_none rfl
                     intro R s w' hT hs hw ha
                     go_simp
                 case end414 =>
                  intro sI R G w415 hI FF hFF
                  have hS := hI.same
                  have hTT := hI.holds
                  have hz0 := EE.out.size
                  replace P8 := P8.sameE hS (fun h => h) (by simp)
                  replace PL := PL.sameE hS (fun h => h) (by simp)
                  replace P12 := P12.sameE hS (fun h => h) (by simp)
                  replace P13 := P13.sameE hS (fun h => h) (by simp)
                  replace P15 := P15.sameE hS (fun h => h) (by simp)
                  replace P17 := P17.sameE hS (fun h => h) (by simp)
                  have P20 : Blk w415 (G 9) 25 R1 := (hI.fulls 10 (List.mem_range.2 (show 10 < 12 by decide)) 9 rfl).2.2
                  have hmP20 := (hI.made 9 (List.mem_range.2 (show 9 < 12 by decide)) rfl).1
                  have P20_lo : wr.heap.size ≤ G 9 := Nat.le_trans hz0 hmP20
                  have ngP8_20 : g8 ≠ G 9 := by omega
                  have ngPL_20 : gl ≠ G 9 := by omega
                  have ngP12_20 : g12 ≠ G 9 := by omega
                  have ngP13_20 : g13 ≠ G 9 := by omega
                  have ngP15_20 : g15 ≠ G 9 := by omega
                  have ngP17_20 : g17 ≠ G 9 := by omega
                  replace EE := hide (show Ext _ _ from hTT)
                  clear hS hz0 hTT hI P8_lt PL_lt P12_lt P13_lt P15_lt P17_lt
                  dsimp only at hFF
                  subst hFF
                  generalize G 9 = g20 at *
                  go_upto_region 21 with fail
                  have P8_lt := P8.lt
                  have PL_lt := PL.lt
                  have P12_lt := P12.lt
                  have P13_lt := P13.lt
                  have P15_lt := P15.lt
                  have P17_lt := P17.lt
                  have P20_lt := P20.lt
                  refine wp_evA [.q, .q, .q, .q, .q, .q, .q, .so 0] [0, 0, 0, 0, 0, 0, 0, 0] (fun R => [.agg R1, .int .i64 v, .agg Vv, .tuple #[.agg R2, .bool true], .tuple #[.agg R2, .bool true], .agg R2, .bool true, undef]) (fun _ => (.cells #[] 0 (0, 0))) (fun R _ => (.cells R2 25 (0, 0))) (fun _ => g20) (XE wr) (fun _ => False) _ (fun R G => { tmps := #[.slice x len cap, undef, u2, .pointer (some ⟨b, 0, none⟩), .int .i64 base, .int .i64 v, .int .i64 eps, .int .u64 (d : Int), .pointer (some ⟨g8, 0, none⟩), .bool true, .slice (some ⟨gl, 0, none⟩) 4 4, .int .i64 (k : Int), .pointer (some ⟨g12, 0, none⟩), .pointer (some ⟨g13, 0, none⟩), .bool true, .pointer (some ⟨g15, 0, none⟩), .bool true, .pointer (some ⟨g17, 0, none⟩), .bool true, .bool fits, .pointer (some ⟨g20, 0, none⟩), .bool true, .slice x len cap, .pointer (some ⟨b, 0, none⟩), .pointer (some ⟨b, 0, none⟩), .int .i64 base, .pointer (some ⟨b, 0, none⟩), .int .i64 v, .pointer (some ⟨b, 0, none⟩), .int .i64 eps, .pointer (some ⟨b, 0, none⟩), .int .u64 (xw : Int), .pointer (some ⟨b, 0, none⟩), .int .i64 (y : Int), .int .i64 (q : Int), .int .u64 (q : Int), .int .u64 (r : Int), .int .u64 (d : Int), .tuple #[.agg C, .bool true], .int .i64 base, .agg (wC base), .int .i64 v, .int .i64 eps, .int .u64 (d : Int), .tuple #[.agg C, .bool true], .agg C, .bool true, .bool true, .bool false, .pointer (some ⟨g8, 1, none⟩), .agg (frC f0), .pointer (some ⟨g8, 11, none⟩), .agg (frC f1), .agg C, .agg (frC s4), .pointer (some ⟨b, 0, none⟩), .agg (frC (n0, d0)), .slice (some ⟨gl, 0, none⟩) 4 4, .int .i64 (k : Int), .slice (some ⟨gl, 0, none⟩) 4 4, .int .i64 4, .bool true, u62, u63, .slice (some ⟨gl, 0, none⟩) 4 4, .int .i64 (k : Int), .pointer (some ⟨gl, kx, none⟩), .agg S, .tuple #[.agg N1, .bool true], .pointer (some ⟨g12, 0, none⟩), .agg Nm, .int .u64 (d : Int), .agg Ud, .tuple #[.agg N1, .bool true], .agg N1, .bool true, .tuple #[.agg D1, .bool true], .int .i64 v, .agg Vv, .int .i64 base, .agg Bb, .tuple #[.agg D1, .bool true], .agg D1, .bool true, .tuple #[.agg D2, .bool true], .agg D1, .pointer (some ⟨g12, 5, none⟩), .agg Dn, .tuple #[.agg D2, .bool true], .agg D2, .bool true, .tuple #[.agg N2, .bool true], .agg N1, .agg D2, .tuple #[.agg N2, .bool true], .agg N2, .bool true, .pointer (some ⟨g13, 0, none⟩), .tuple #[.agg M1, .bool true], .int .i64 eps, .agg Ee, .pointer (some ⟨g12, 5, none⟩), .agg Dn, .tuple #[.agg M1, .bool true], .agg M1, .bool true, .agg N3, .agg M1, .int .i64 rc, .bool fits, .agg C, .agg S, .bool fits, .bool fits, .bool false, .tuple #[.agg R1, .bool true], .int .i64 base, .agg Bb, .agg S, .int .u64 (d : Int), .agg Q1, .tuple #[.agg R1, .bool true], .agg R1, .bool true, .tuple #[.agg R2, .bool true], .agg R1, .int .i64 v, .agg Vv, .tuple #[.agg R2, .bool true], .agg R2, .bool true, u131, u132, u133, u134, u135, u136, u137, u138, u139, undef], defers := [] }) (by intro R G; kernel_rfl) (fun _ => rfl) (by kernel_rfl) (by kernel_rfl) (by kernel_rfl) (by kernel_rfl) rfl (fun _ => rfl) (fun _ h => h.elim) (fun _ _ h => h) (by intro c hc; simp at hc; (try subst hc); (try simp only); omega) (by intro c c' h1 h2 _; simp at h1 h2; omega) (fun R R' => ⟨fun _ => rfl, fun _ => rfl, fun _ => rfl, fun _ => rfl, fun _ => rfl, fun _ => rfl, fun _ => rfl, fun _ => rfl, trivial⟩) (fun _ _ _ _ => rfl) xe_below (EE.out.trans (ext_drew _)) ?ops423 ?end423
                  case ops423 =>
                    refine ⟨?_, ?_, ?_, ?_, ?_, ?_, ?_, ?_, trivial⟩
                    · refine er_q ?vn416 ?hn416 ?kn416 ?gn416 ?_
                      case hn416 => exact rfl
                      case vn416 => exact (fun R => .agg R1)
                      case kn416 => exact (fun R => rfl)
                      case gn416 => exact gd_none rfl
                      intro R s w' hT hs hw ha
                      have L := ld_all ((ha 7 0 rfl (by kernel_rfl)).trans P20) uWide rfl iWide sR1
                      refine q_load rfl ?_ L
                      kernel_rfl
                    · refine er_q ?vn417 ?hn417 ?kn417 ?gn417 ?_
                      case hn417 => exact rfl
                      case vn417 => exact (fun R => .int .i64 v)
                      case kn417 => exact (fun R => rfl)
                      case gn417 => exact gd_none rfl
                      intro R s w' hT hs hw ha
                      go_simp
                    · refine er_q ?vn418 ?hn418 ?kn418 ?gn418 ?_
                      case hn418 => exact rfl
                      case vn418 => exact (fun R => .agg Vv)
                      case kn418 => exact (fun R => rfl)
                      case gn418 => exact gd_none rfl
                      intro R s w' hT hs hw ha
                      go_simp
                      exact k3.out w'
                    · refine er_q ?vn419 ?hn419 ?kn419 ?gn419 ?_
                      case hn419 => exact rfl
                      case vn419 => exact (fun R => .tuple #[.agg R2, .bool true])
                      case kn419 => exact (fun R => rfl)
                      case gn419 => exact gd_none rfl
                      intro R s w' hT hs hw ha
                      go_simp
                      exact k14.out w'
                    · refine er_q ?vn420 ?hn420 ?kn420 ?gn420 ?_
                      case hn420 => exact rfl
                      case vn420 => exact (fun R => .tuple #[.agg R2, .bool true])
                      case kn420 => exact (fun R => rfl)
                      case gn420 => exact gd_none rfl
                      intro R s w' hT hs hw ha
                      go_simp
                    · refine er_q ?vn421 ?hn421 ?kn421 ?gn421 ?_
                      case hn421 => exact rfl
                      case vn421 => exact (fun R => .agg R2)
                      case kn421 => exact (fun R => rfl)
                      case gn421 => exact gd_none rfl
                      intro R s w' hT hs hw ha
                      go_simp
                    · refine er_q ?vn422 ?hn422 ?kn422 ?gn422 ?_
                      case hn422 => exact rfl
                      case vn422 => exact (fun R => .bool true)
                      case kn422 => exact (fun R => rfl)
                      case gn422 => exact gd_none rfl
                      intro R s w' hT hs hw ha
                      go_simp
                    · refine er_so (c := 0) (Ty := ?Tn423) (p := ?pn423) (x := ?xn423) g20 ?fn423 ?un423 ?vn423 ?hn423 ?on423 ?kn423 ?ln423 ?gn423 ?dn423 ?en423 ?_
                      case hn423 => exact rfl
                      case on423 => exact rfl
                      case fn423 => exact (fun R => (.cells R2 25 (0, 0)))
                      case un423 => exact (fun R => .pointer (some ⟨g20, 0, none⟩))
                      case vn423 => exact (fun R => .agg R2)
                      case kn423 => exact (fun R => rfl)
                      case ln423 => exact rfl
                      case gn423 => exact gd_none rfl
                      case dn423 =>
                        intro R
                        kernel_rfl
                      case en423 =>
                        intro R
                        kernel_rfl
                      intro R s ρ w hT hs hp hx hz
                      refine ⟨store_rowN (g := g20) rfl hp hx (hz.trans P20) iWide (sR1) (sR2) (oR2), fun w1 hF => ext_filled hT hF P20_lo⟩
                  case end423 =>
                   intro sI R G w424 hI FF hFF
                   have hS := hI.same
                   have hTT := hI.holds
                   have hz0 := EE.out.size
                   replace P8 := P8.sameE hS (fun h => h) (by intro c hc; simp at hc; (try subst hc); (try simp only); omega)
                   replace PL := PL.sameE hS (fun h => h) (by intro c hc; simp at hc; (try subst hc); (try simp only); omega)
                   replace P12 := P12.sameE hS (fun h => h) (by intro c hc; simp at hc; (try subst hc); (try simp only); omega)
                   replace P13 := P13.sameE hS (fun h => h) (by intro c hc; simp at hc; (try subst hc); (try simp only); omega)
                   replace P15 := P15.sameE hS (fun h => h) (by intro c hc; simp at hc; (try subst hc); (try simp only); omega)
                   replace P17 := P17.sameE hS (fun h => h) (by intro c hc; simp at hc; (try subst hc); (try simp only); omega)
                   replace P20 : Blk w424 g20 25 R2 := hI.olds' 7 (List.mem_range.2 (show 7 < 8 by decide)) 0 rfl
                   replace EE := hide (show Ext _ _ from hTT)
                   clear hS hz0 hTT hI P8_lt PL_lt P12_lt P13_lt P15_lt P17_lt P20_lt
                   dsimp only at hFF
                   subst hFF
                   go_upto_region 22 with fail
                   have P8_lt := P8.lt
                   have PL_lt := PL.lt
                   have P12_lt := P12.lt
                   have P13_lt := P13.lt
                   have P15_lt := P15.lt
                   have P17_lt := P17.lt
                   have P20_lt := P20.lt
                   refine wp_evsA [.q, .so 0] [0, 0] (fun R => [.pointer (some ⟨g20, 0, none⟩), undef]) (fun _ => (.cells #[] 0 (0, 0))) (fun R _ => (.cells R3 25 (0, 0))) (fun _ => g20) (XE wr) (fun _ => False) _ (fun R G => { tmps := #[.slice x len cap, undef, u2, .pointer (some ⟨b, 0, none⟩), .int .i64 base, .int .i64 v, .int .i64 eps, .int .u64 (d : Int), .pointer (some ⟨g8, 0, none⟩), .bool true, .slice (some ⟨gl, 0, none⟩) 4 4, .int .i64 (k : Int), .pointer (some ⟨g12, 0, none⟩), .pointer (some ⟨g13, 0, none⟩), .bool true, .pointer (some ⟨g15, 0, none⟩), .bool true, .pointer (some ⟨g17, 0, none⟩), .bool true, .bool fits, .pointer (some ⟨g20, 0, none⟩), .bool true, .slice x len cap, .pointer (some ⟨b, 0, none⟩), .pointer (some ⟨b, 0, none⟩), .int .i64 base, .pointer (some ⟨b, 0, none⟩), .int .i64 v, .pointer (some ⟨b, 0, none⟩), .int .i64 eps, .pointer (some ⟨b, 0, none⟩), .int .u64 (xw : Int), .pointer (some ⟨b, 0, none⟩), .int .i64 (y : Int), .int .i64 (q : Int), .int .u64 (q : Int), .int .u64 (r : Int), .int .u64 (d : Int), .tuple #[.agg C, .bool true], .int .i64 base, .agg (wC base), .int .i64 v, .int .i64 eps, .int .u64 (d : Int), .tuple #[.agg C, .bool true], .agg C, .bool true, .bool true, .bool false, .pointer (some ⟨g8, 1, none⟩), .agg (frC f0), .pointer (some ⟨g8, 11, none⟩), .agg (frC f1), .agg C, .agg (frC s4), .pointer (some ⟨b, 0, none⟩), .agg (frC (n0, d0)), .slice (some ⟨gl, 0, none⟩) 4 4, .int .i64 (k : Int), .slice (some ⟨gl, 0, none⟩) 4 4, .int .i64 4, .bool true, u62, u63, .slice (some ⟨gl, 0, none⟩) 4 4, .int .i64 (k : Int), .pointer (some ⟨gl, kx, none⟩), .agg S, .tuple #[.agg N1, .bool true], .pointer (some ⟨g12, 0, none⟩), .agg Nm, .int .u64 (d : Int), .agg Ud, .tuple #[.agg N1, .bool true], .agg N1, .bool true, .tuple #[.agg D1, .bool true], .int .i64 v, .agg Vv, .int .i64 base, .agg Bb, .tuple #[.agg D1, .bool true], .agg D1, .bool true, .tuple #[.agg D2, .bool true], .agg D1, .pointer (some ⟨g12, 5, none⟩), .agg Dn, .tuple #[.agg D2, .bool true], .agg D2, .bool true, .tuple #[.agg N2, .bool true], .agg N1, .agg D2, .tuple #[.agg N2, .bool true], .agg N2, .bool true, .pointer (some ⟨g13, 0, none⟩), .tuple #[.agg M1, .bool true], .int .i64 eps, .agg Ee, .pointer (some ⟨g12, 5, none⟩), .agg Dn, .tuple #[.agg M1, .bool true], .agg M1, .bool true, .agg N3, .agg M1, .int .i64 rc, .bool fits, .agg C, .agg S, .bool fits, .bool fits, .bool false, .tuple #[.agg R1, .bool true], .int .i64 base, .agg Bb, .agg S, .int .u64 (d : Int), .agg Q1, .tuple #[.agg R1, .bool true], .agg R1, .bool true, .tuple #[.agg R2, .bool true], .agg R1, .int .i64 v, .agg Vv, .tuple #[.agg R2, .bool true], .agg R2, .bool true, .pointer (some ⟨g20, 0, none⟩), u132, u133, u134, u135, u136, u137, u138, u139, undef], defers := [] }) (by intro R G; kernel_rfl) (fun _ => rfl) (by kernel_rfl) (by kernel_rfl) (by kernel_rfl) rfl (fun _ => rfl) (fun _ h => h.elim) (fun _ _ h => h) (by intro c hc; simp at hc; (try subst hc); (try simp only); omega) (by intro c c' h1 h2 _; simp at h1 h2; omega) (fun R R' => ⟨fun _ => rfl, fun _ => rfl, trivial⟩) (fun _ _ _ _ => rfl) xe_below EE.out ?ops426 ?end426
                   case ops426 =>
                     refine ⟨?_, ?_, trivial⟩
                     · refine er_q ?vn425 ?hn425 ?kn425 ?gn425 ?_
                       case hn425 => exact rfl
                       case vn425 => exact (fun R => .pointer (some ⟨g20, 0, none⟩))
                       case kn425 => exact (fun R => rfl)
                       case gn425 => exact gd_none rfl
                       intro R s w' hT hs hw ha
                       go_simp
                     · refine er_so (c := 0) (Ty := ?Tn426) (p := ?pn426) (x := ?xn426) g20 ?fn426 ?un426 ?vn426 ?hn426 ?on426 ?kn426 ?ln426 ?gn426 ?dn426 ?en426 ?_
                       case hn426 => exact rfl
                       case on426 => exact rfl
                       case fn426 => exact (fun R => (.cells R3 25 (0, 0)))
                       case un426 => exact (fun R => .pointer (some ⟨g20, 0, none⟩))
                       case vn426 => exact (fun R => .bool false)
                       case kn426 => exact (fun R => rfl)
                       case ln426 => exact rfl
                       case gn426 => exact gd_none rfl
                       case dn426 =>
                         intro R
                         kernel_rfl
                       case en426 =>
                         intro R
                         kernel_rfl
                       intro R s ρ w hT hs hp hx hz
                       have hB := (show Blk w g20 _ R2 from hz.trans P20)
                       have hc := (hB.cell 0).trans (m0')
                       have hf := hB.frozen 0
                       refine ⟨store_at (g := g20) (Ty := 4) rfl hp hx (hz.trans P20) (m1') ?_, fun w1 hF => ext_filled hT hF P20_lo⟩
                       go_simp
                   case end426 =>
                    intro sI R G w427 hI FF hFF
                    have hS := hI.same
                    have hTT := hI.holds
                    have hz0 := EE.out.size
                    replace P8 := P8.sameE hS (fun h => h) (by intro c hc; simp at hc; (try subst hc); (try simp only); omega)
                    replace PL := PL.sameE hS (fun h => h) (by intro c hc; simp at hc; (try subst hc); (try simp only); omega)
                    replace P12 := P12.sameE hS (fun h => h) (by intro c hc; simp at hc; (try subst hc); (try simp only); omega)
                    replace P13 := P13.sameE hS (fun h => h) (by intro c hc; simp at hc; (try subst hc); (try simp only); omega)
                    replace P15 := P15.sameE hS (fun h => h) (by intro c hc; simp at hc; (try subst hc); (try simp only); omega)
                    replace P17 := P17.sameE hS (fun h => h) (by intro c hc; simp at hc; (try subst hc); (try simp only); omega)
                    replace P20 : Blk w427 g20 25 R3 := hI.olds' 1 (List.mem_range.2 (show 1 < 2 by decide)) 0 rfl
                    replace EE := hide (show Ext _ _ from hTT)
                    clear hS hz0 hTT hI P8_lt PL_lt P12_lt P13_lt P15_lt P17_lt P20_lt
                    dsimp only at hFF
                    subst hFF
                    go_upto_region 23 with fail
                    rcases Bool.eq_false_or_eq_true fits with rfl | rfl
                    · skip
                      have hr2 := hrr rfl
                      have P8_lt := P8.lt
                      have PL_lt := PL.lt
                      have P12_lt := P12.lt
                      have P13_lt := P13.lt
                      have P15_lt := P15.lt
                      have P17_lt := P17.lt
                      have P20_lt := P20.lt
                      refine wp_evA [.q, .q, .q, .q, .q, .q, .q, .q] [0, 0, 0, 0, 0, 0, 0, 0] (fun R => [.bool true, .bool true, .agg R3, .int .i64 eps, .agg Ee, .int .i64 r2, .bool false, .bool false]) (fun _ => (.cells #[] 0 (0, 0))) (fun R _ => (.cells #[] 0 (0, 0))) (fun _ => 0) (XE wr) (fun _ => False) _ (fun R G => { tmps := #[.slice x len cap, undef, u2, .pointer (some ⟨b, 0, none⟩), .int .i64 base, .int .i64 v, .int .i64 eps, .int .u64 (d : Int), .pointer (some ⟨g8, 0, none⟩), .bool true, .slice (some ⟨gl, 0, none⟩) 4 4, .int .i64 (k : Int), .pointer (some ⟨g12, 0, none⟩), .pointer (some ⟨g13, 0, none⟩), .bool true, .pointer (some ⟨g15, 0, none⟩), .bool true, .pointer (some ⟨g17, 0, none⟩), .bool true, .bool true, .pointer (some ⟨g20, 0, none⟩), .bool true, .slice x len cap, .pointer (some ⟨b, 0, none⟩), .pointer (some ⟨b, 0, none⟩), .int .i64 base, .pointer (some ⟨b, 0, none⟩), .int .i64 v, .pointer (some ⟨b, 0, none⟩), .int .i64 eps, .pointer (some ⟨b, 0, none⟩), .int .u64 (xw : Int), .pointer (some ⟨b, 0, none⟩), .int .i64 (y : Int), .int .i64 (q : Int), .int .u64 (q : Int), .int .u64 (r : Int), .int .u64 (d : Int), .tuple #[.agg C, .bool true], .int .i64 base, .agg (wC base), .int .i64 v, .int .i64 eps, .int .u64 (d : Int), .tuple #[.agg C, .bool true], .agg C, .bool true, .bool true, .bool false, .pointer (some ⟨g8, 1, none⟩), .agg (frC f0), .pointer (some ⟨g8, 11, none⟩), .agg (frC f1), .agg C, .agg (frC s4), .pointer (some ⟨b, 0, none⟩), .agg (frC (n0, d0)), .slice (some ⟨gl, 0, none⟩) 4 4, .int .i64 (k : Int), .slice (some ⟨gl, 0, none⟩) 4 4, .int .i64 4, .bool true, u62, u63, .slice (some ⟨gl, 0, none⟩) 4 4, .int .i64 (k : Int), .pointer (some ⟨gl, kx, none⟩), .agg S, .tuple #[.agg N1, .bool true], .pointer (some ⟨g12, 0, none⟩), .agg Nm, .int .u64 (d : Int), .agg Ud, .tuple #[.agg N1, .bool true], .agg N1, .bool true, .tuple #[.agg D1, .bool true], .int .i64 v, .agg Vv, .int .i64 base, .agg Bb, .tuple #[.agg D1, .bool true], .agg D1, .bool true, .tuple #[.agg D2, .bool true], .agg D1, .pointer (some ⟨g12, 5, none⟩), .agg Dn, .tuple #[.agg D2, .bool true], .agg D2, .bool true, .tuple #[.agg N2, .bool true], .agg N1, .agg D2, .tuple #[.agg N2, .bool true], .agg N2, .bool true, .pointer (some ⟨g13, 0, none⟩), .tuple #[.agg M1, .bool true], .int .i64 eps, .agg Ee, .pointer (some ⟨g12, 5, none⟩), .agg Dn, .tuple #[.agg M1, .bool true], .agg M1, .bool true, .agg N3, .agg M1, .int .i64 rc, .bool true, .agg C, .agg S, .bool true, .bool true, .bool false, .tuple #[.agg R1, .bool true], .int .i64 base, .agg Bb, .agg S, .int .u64 (d : Int), .agg Q1, .tuple #[.agg R1, .bool true], .agg R1, .bool true, .tuple #[.agg R2, .bool true], .agg R1, .int .i64 v, .agg Vv, .tuple #[.agg R2, .bool true], .agg R2, .bool true, .pointer (some ⟨g20, 0, none⟩), .bool true, .bool true, .agg R3, .int .i64 eps, .agg Ee, .int .i64 r2, .bool false, .bool false, undef], defers := [] }) (by intro R G; kernel_rfl) (fun _ => rfl) (by kernel_rfl) (by kernel_rfl) (by kernel_rfl) (by kernel_rfl) rfl (fun _ => rfl) (fun _ h => h.elim) (fun _ _ h => h) (by simp) (by simp) (fun R R' => ⟨fun _ => rfl, fun _ => rfl, fun _ => rfl, fun _ => rfl, fun _ => rfl, fun _ => rfl, fun _ => rfl, fun _ => rfl, trivial⟩) (fun _ _ _ _ => rfl) xe_below (EE.out.trans (ext_drew _)) ?ops435 ?end435
                      case ops435 =>
                        refine ⟨?_, ?_, ?_, ?_, ?_, ?_, ?_, ?_, trivial⟩
                        · refine er_q ?vn428 ?hn428 ?kn428 ?gn428 ?_
                          case hn428 => exact rfl
                          case vn428 => exact (fun R => .bool true)
                          case kn428 => exact (fun R => rfl)
                          case gn428 => exact gd_none rfl
                          intro R s w' hT hs hw ha
                          go_simp
                        · refine er_q ?vn429 ?hn429 ?kn429 ?gn429 ?_
                          case hn429 => exact rfl
                          case vn429 => exact (fun R => .bool true)
                          case kn429 => exact (fun R => rfl)
                          case gn429 => exact gd_none rfl
                          intro R s w' hT hs hw ha
                          go_simp
                        · refine er_q ?vn430 ?hn430 ?kn430 ?gn430 ?_
                          case hn430 => exact rfl
                          case vn430 => exact (fun R => .agg R3)
                          case kn430 => exact (fun R => rfl)
                          case gn430 => (refine gd_some rfl ?_; intro R; kernel_rfl)
                          intro R s w' hT hs hw ha
                          have L := ld_all (P20.sameE hw (fun h => h) (by simp)) uWide rfl iWide sR3
                          refine q_load rfl ?_ L
                          kernel_rfl
                        · refine er_q ?vn431 ?hn431 ?kn431 ?gn431 ?_
                          case hn431 => exact rfl
                          case vn431 => exact (fun R => .int .i64 eps)
                          case kn431 => exact (fun R => rfl)
                          case gn431 => (refine gd_some rfl ?_; intro R; kernel_rfl)
                          intro R s w' hT hs hw ha
                          go_simp
                        · refine er_q ?vn432 ?hn432 ?kn432 ?gn432 ?_
                          case hn432 => exact rfl
                          case vn432 => exact (fun R => .agg Ee)
                          case kn432 => exact (fun R => rfl)
                          case gn432 => (refine gd_some rfl ?_; intro R; kernel_rfl)
                          intro R s w' hT hs hw ha
                          go_simp
                          exact k8.out w'
                        · refine er_q ?vn433 ?hn433 ?kn433 ?gn433 ?_
                          case hn433 => exact rfl
                          case vn433 => exact (fun R => .int .i64 r2)
                          case kn433 => exact (fun R => rfl)
                          case gn433 => (refine gd_some rfl ?_; intro R; kernel_rfl)
                          intro R s w' hT hs hw ha
                          go_simp
                          exact k15.out w'
                        · refine er_q ?vn434 ?hn434 ?kn434 ?gn434 ?_
                          case hn434 => exact rfl
                          case vn434 => exact (fun R => .bool false)
                          case kn434 => exact (fun R => rfl)
                          case gn434 => (refine gd_some rfl ?_; intro R; kernel_rfl)
                          intro R s w' hT hs hw ha
                          go_simp
                        · refine er_q ?vn435 ?hn435 ?kn435 ?gn435 ?_
                          case hn435 => exact rfl
                          case vn435 => exact (fun R => .bool false)
                          case kn435 => exact (fun R => rfl)
                          case gn435 => exact gd_none rfl
                          intro R s w' hT hs hw ha
                          go_simp
                      case end435 =>
                       intro sI R G w436 hI FF hFF
                       have hS := hI.same
                       have hTT := hI.holds
                       have hz0 := EE.out.size
                       replace P8 := P8.sameE hS (fun h => h) (by simp)
                       replace PL := PL.sameE hS (fun h => h) (by simp)
                       replace P12 := P12.sameE hS (fun h => h) (by simp)
                       replace P13 := P13.sameE hS (fun h => h) (by simp)
                       replace P15 := P15.sameE hS (fun h => h) (by simp)
                       replace P17 := P17.sameE hS (fun h => h) (by simp)
                       replace P20 := P20.sameE hS (fun h => h) (by simp)
                       replace EE := hide (show Ext _ _ from hTT)
                       clear hS hz0 hTT hI P8_lt PL_lt P12_lt P13_lt P15_lt P17_lt P20_lt
                       dsimp only at hFF
                       subst hFF
                       go_wp2_with fail
                       go_roundw
                       case rel => exact ⟨k + 1, by omega, by go_num, hide (HE.out.trans EE.out)⟩
                       case measure => simp [intOf]; omega
                    · skip
                      have P8_lt := P8.lt
                      have PL_lt := PL.lt
                      have P12_lt := P12.lt
                      have P13_lt := P13.lt
                      have P15_lt := P15.lt
                      have P17_lt := P17.lt
                      have P20_lt := P20.lt
                      refine wp_evA [.q, .q, .sk, .sk, .sk, .sk, .sk, .q] [0, 0, 0, 0, 0, 0, 0, 0] (fun R => [.bool false, .bool false, undef, undef, undef, undef, undef, .bool false]) (fun _ => (.cells #[] 0 (0, 0))) (fun R _ => (.cells #[] 0 (0, 0))) (fun _ => 0) (XE wr) (fun _ => False) _ (fun R G => { tmps := #[.slice x len cap, undef, u2, .pointer (some ⟨b, 0, none⟩), .int .i64 base, .int .i64 v, .int .i64 eps, .int .u64 (d : Int), .pointer (some ⟨g8, 0, none⟩), .bool true, .slice (some ⟨gl, 0, none⟩) 4 4, .int .i64 (k : Int), .pointer (some ⟨g12, 0, none⟩), .pointer (some ⟨g13, 0, none⟩), .bool true, .pointer (some ⟨g15, 0, none⟩), .bool true, .pointer (some ⟨g17, 0, none⟩), .bool true, .bool false, .pointer (some ⟨g20, 0, none⟩), .bool true, .slice x len cap, .pointer (some ⟨b, 0, none⟩), .pointer (some ⟨b, 0, none⟩), .int .i64 base, .pointer (some ⟨b, 0, none⟩), .int .i64 v, .pointer (some ⟨b, 0, none⟩), .int .i64 eps, .pointer (some ⟨b, 0, none⟩), .int .u64 (xw : Int), .pointer (some ⟨b, 0, none⟩), .int .i64 (y : Int), .int .i64 (q : Int), .int .u64 (q : Int), .int .u64 (r : Int), .int .u64 (d : Int), .tuple #[.agg C, .bool true], .int .i64 base, .agg (wC base), .int .i64 v, .int .i64 eps, .int .u64 (d : Int), .tuple #[.agg C, .bool true], .agg C, .bool true, .bool true, .bool false, .pointer (some ⟨g8, 1, none⟩), .agg (frC f0), .pointer (some ⟨g8, 11, none⟩), .agg (frC f1), .agg C, .agg (frC s4), .pointer (some ⟨b, 0, none⟩), .agg (frC (n0, d0)), .slice (some ⟨gl, 0, none⟩) 4 4, .int .i64 (k : Int), .slice (some ⟨gl, 0, none⟩) 4 4, .int .i64 4, .bool true, u62, u63, .slice (some ⟨gl, 0, none⟩) 4 4, .int .i64 (k : Int), .pointer (some ⟨gl, kx, none⟩), .agg S, .tuple #[.agg N1, .bool true], .pointer (some ⟨g12, 0, none⟩), .agg Nm, .int .u64 (d : Int), .agg Ud, .tuple #[.agg N1, .bool true], .agg N1, .bool true, .tuple #[.agg D1, .bool true], .int .i64 v, .agg Vv, .int .i64 base, .agg Bb, .tuple #[.agg D1, .bool true], .agg D1, .bool true, .tuple #[.agg D2, .bool true], .agg D1, .pointer (some ⟨g12, 5, none⟩), .agg Dn, .tuple #[.agg D2, .bool true], .agg D2, .bool true, .tuple #[.agg N2, .bool true], .agg N1, .agg D2, .tuple #[.agg N2, .bool true], .agg N2, .bool true, .pointer (some ⟨g13, 0, none⟩), .tuple #[.agg M1, .bool true], .int .i64 eps, .agg Ee, .pointer (some ⟨g12, 5, none⟩), .agg Dn, .tuple #[.agg M1, .bool true], .agg M1, .bool true, .agg N3, .agg M1, .int .i64 rc, .bool false, .agg C, .agg S, .bool false, .bool false, .bool false, .tuple #[.agg R1, .bool true], .int .i64 base, .agg Bb, .agg S, .int .u64 (d : Int), .agg Q1, .tuple #[.agg R1, .bool true], .agg R1, .bool true, .tuple #[.agg R2, .bool true], .agg R1, .int .i64 v, .agg Vv, .tuple #[.agg R2, .bool true], .agg R2, .bool true, .pointer (some ⟨g20, 0, none⟩), .bool false, .bool false, undef, undef, undef, undef, undef, .bool false, undef], defers := [] }) (by intro R G; kernel_rfl) (fun _ => rfl) (by kernel_rfl) (by kernel_rfl) (by kernel_rfl) (by kernel_rfl) rfl (fun _ => rfl) (fun _ h => h.elim) (fun _ _ h => h) (by simp) (by simp) (fun R R' => ⟨fun _ => rfl, fun _ => rfl, fun _ => rfl, fun _ => rfl, fun _ => rfl, fun _ => rfl, fun _ => rfl, fun _ => rfl, trivial⟩) (fun _ _ _ _ => rfl) xe_below (EE.out.trans (ext_drew _)) ?ops735 ?end735
                      case ops735 =>
                        refine ⟨?_, ?_, ?_, ?_, ?_, ?_, ?_, ?_, trivial⟩
                        · refine er_q ?vn728 ?hn728 ?kn728 ?gn728 ?_
                          case hn728 => exact rfl
                          case vn728 => exact (fun R => .bool false)
                          case kn728 => exact (fun R => rfl)
                          case gn728 => exact gd_none rfl
                          intro R s w' hT hs hw ha
                          go_simp
                        · refine er_q ?vn729 ?hn729 ?kn729 ?gn729 ?_
                          case hn729 => exact rfl
                          case vn729 => exact (fun R => .bool false)
                          case kn729 => exact (fun R => rfl)
                          case gn729 => exact gd_none rfl
                          intro R s w' hT hs hw ha
                          go_simp
                        · refine er_sk ?hn730 ?gn730
                          case hn730 => exact rfl
                          case gn730 => (refine gd_some rfl ?_; intro R; kernel_rfl)
                        · refine er_sk ?hn731 ?gn731
                          case hn731 => exact rfl
                          case gn731 => (refine gd_some rfl ?_; intro R; kernel_rfl)
                        · refine er_sk ?hn732 ?gn732
                          case hn732 => exact rfl
                          case gn732 => (refine gd_some rfl ?_; intro R; kernel_rfl)
                        · refine er_sk ?hn733 ?gn733
                          case hn733 => exact rfl
                          case gn733 => (refine gd_some rfl ?_; intro R; kernel_rfl)
                        · refine er_sk ?hn734 ?gn734
                          case hn734 => exact rfl
                          case gn734 => (refine gd_some rfl ?_; intro R; kernel_rfl)
                        · refine er_q ?vn735 ?hn735 ?kn735 ?gn735 ?_
                          case hn735 => exact rfl
                          case vn735 => exact (fun R => .bool false)
                          case kn735 => exact (fun R => rfl)
                          case gn735 => exact gd_none rfl
                          intro R s w' hT hs hw ha
                          go_simp
                      case end735 =>
                       intro sI R G w736 hI FF hFF
                       have hS := hI.same
                       have hTT := hI.holds
                       have hz0 := EE.out.size
                       replace P8 := P8.sameE hS (fun h => h) (by simp)
                       replace PL := PL.sameE hS (fun h => h) (by simp)
                       replace P12 := P12.sameE hS (fun h => h) (by simp)
                       replace P13 := P13.sameE hS (fun h => h) (by simp)
                       replace P15 := P15.sameE hS (fun h => h) (by simp)
                       replace P17 := P17.sameE hS (fun h => h) (by simp)
                       replace P20 := P20.sameE hS (fun h => h) (by simp)
                       replace EE := hide (show Ext _ _ from hTT)
                       clear hS hz0 hTT hI P8_lt PL_lt P12_lt P13_lt P15_lt P17_lt P20_lt
                       dsimp only at hFF
                       subst hFF
                       go_wp2_with fail
                       go_roundw
                       case rel => exact ⟨k + 1, by omega, by go_num, hide (HE.out.trans EE.out)⟩
                       case measure => simp [intOf]; omega
      · have d0' : decide ((k : Int) < 4) = false := decide_eq_false (by omega)
        go_upto_region 25 with fail
        go_wp2_with (go_at_call 12; (with_reducible refine (kK.out _).mono ?_); rintro e w9 ⟨rfl, hE⟩)
        go_ret
        exact ⟨rfl, EW.out.trans hE⟩
end
end Go.Proofs.Ythlbkidgdngblaa
