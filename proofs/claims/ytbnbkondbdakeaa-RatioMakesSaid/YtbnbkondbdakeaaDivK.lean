/- divWords of the program where the divisor has more than one word. Conditions: the words are of 64 bits. -/
import Derived.Test.YtbnbkondbdakeaaDiv2
import Derived.Laws.IdiomCopy
namespace Go.Proofs.Ytbnbkondbdakeaa
set_option linter.unusedVariables false
set_option linter.unusedSimpArgs false
open Go Go.RowKit
/-- The first words of an array. -/
theorem slHead (T n g : Nat) (h : Int) (m : Nat) (hm : h = ((m : Nat) : Int)) (hT : Try.prog.underlying T = some (.array (Try.prog.arrayLen T) (Try.prog.elem T))) (hn : Try.prog.arrayLen T = n) (he : Try.prog.elem T = 22) (h2 : m ≤ n) (h3 : 0 < n) (w : World) :
    (Instr.sliceAt T (.pointer (some ⟨g, 0, none⟩)) none (some (.int .i64 h)) none).run Try.prog w = .ok (.slice (some ⟨g, 0, none⟩) m n) w := by
  subst hm
  rw [run_sliceAt_array_h w T ⟨g, 0, none⟩ hT .i64 (m : Int) (by omega) (by rw [hn]; omega), he, Try.sizeOf22, hn]
  simp only [Result.andThen_ok, slicedAt, Int.toNat_natCast, Nat.mul_one, Nat.sub_zero]
  rw [if_neg (by omega)]
  simp [Addr.add]
theorem five_list {L : List Nat} (h : L.length = 5) : ∃ a b c d e, L = [a, b, c, d, e] := by
  match L, h with
  | [a, b, c, d, e], _ => exact ⟨a, b, c, d, e, rfl⟩
theorem five_top {a b c d e : Nat} (h : val [a, b, c, d, e] < 115792089237316195423570985008687907853269984665640564039457584007913129639936) : mag4 a b c d = val [a, b, c, d, e] := by
  simp only [mag4, val] at h ⊢; omega
/-- Four words are copied into an array of five. -/
theorem copy4 (w : World) (g b : Nat) (v0 v1 v2 v3 : Nat) (hg : Arr w g 107 [0, 0, 0, 0, 0]) (hb : Arr w b 118 [v0, v1, v2, v3]) :
    (Builtin.copy_ #[62, 62] 3 #[.slice (some ⟨g, 0, none⟩) 5 5, .slice (some ⟨b, 0, none⟩) 4 4]).run Try.prog w = .ok (.int .i64 4) ((((w.setCell ⟨g, 0, none⟩ (.int .u64 (v0 : Int))).setCell ⟨g, 1, none⟩ (.int .u64 (v1 : Int))).setCell ⟨g, 2, none⟩ (.int .u64 (v2 : Int))).setCell ⟨g, 3, none⟩ (.int .u64 (v3 : Int))) := by
  have h := run_copy_cells (P := Try.prog) w 62 62 3 22 g 0 5 5 ⟨b, 0, none⟩ 4 4 [.int .u64 (v0 : Int), .int .u64 (v1 : Int), .int .u64 (v2 : Int), .int .u64 (v3 : Int)] Try.underlying62 (by kernel_rfl) rfl
    (fun j v hj => by
      have hj4 : j < 4 := by have := (List.getElem?_eq_some_iff.1 hj).1; simpa using this
      have : j = 0 ∨ j = 1 ∨ j = 2 ∨ j = 3 := by omega
      obtain ⟨i0, i1, i2, i3, _, _, _, _⟩ := hb.four
      rcases this with rfl | rfl | rfl | rfl <;> (simp at hj; subst hj; simpa [Addr.add] using by assumption))
    (fun j hj => by
      simp at hj
      have := hg.at (0 + j) (by simp; omega)
      rw [this]; rfl)
    (fun j _ => hg.free _) (fun v hv => by simp at hv; rcases hv with rfl | rfl | rfl | rfl <;> rfl)
  simpa [World.setCells, goInt] using h
set_option maxRecDepth 100000 in
set_option maxHeartbeats 4000000 in
theorem p_divWords_many (a b c d e f g h n m k : Nat) (hn : mag4 a b c d = n) (hm : mag4 e f g h = m) (w : World) (hw : W64 [a, b, c, d]) (hw' : W64 [e, f, g, h]) (hlt : ¬ n < m) (hlen : (limbs m).length = k + 1) (hk0 : 1 ≤ k) (hk3 : k ≤ 3) :
    Calls Try.prog 113 #[.agg #[.int .u64 (a : Int), .int .u64 (b : Int), .int .u64 (c : Int), .int .u64 (d : Int)], .agg #[.int .u64 (e : Int), .int .u64 (f : Int), .int .u64 (g : Int), .int .u64 (h : Int)]] w (TwoWords (n / m) (n % m) w) := by
  obtain ⟨W, hW, A0, A1, A2, A3, E0⟩ := four_words w a b c d e f g h
  have h01 : (0 : Int) ≤ sgnN n m := by unfold sgnN; rw [if_neg hlt]; split <;> omega
  obtain ⟨q, hq⟩ : ∃ q, sgnN n m = q := ⟨_, rfl⟩
  rw [hq] at h01
  have HS := hide hq
  have hkM : k < [e, f, g, h].length := by simp; omega
  have HTW := hide (top_word [e, f, g, h] m k rfl hw' hm hlen hkM)
  obtain ⟨t, ht⟩ : ∃ t, [e, f, g, h][k] = t := ⟨_, rfl⟩
  have HT := hide ht
  have bt : t < 18446744073709551616 := by rw [← ht]; exact w64_get hw' k hkM
  have bt0 : 0 < t := by have := HTW.out.1; rw [ht] at this; omega
  have HLN : Hid (((limbs m).length : Int) = (k : Int) + 1) := by unfold Hid; rw [hlen]; omega
  have hk1 : (((k : Int) + 1) == 1) = false := by simp; omega
  have hw1 : IntKind.i64.wrap ((k : Int) + 1 - 1) = (k : Int) := by rw [IntKind.wrap_i64]; omega
  have hw2 : (k : Int) + 1 - 1 = (k : Int) := by omega
  have hw3 : IntKind.i64.wrap (4 - ((k : Int) + 1)) = 4 - ((k : Int) + 1) := by rw [IntKind.wrap_i64]; omega
  have hsl := fun g => slHead 118 4 g ((k : Int) + 1) (k + 1) (by omega) (by kernel_rfl) (by kernel_rfl) (by kernel_rfl) (by omega) (by omega)
  have HW := hide hW
  have HN := hide hn
  have HM := hide hm
  obtain ⟨c0, c1, c2, c3, f0, f1, f2, f3⟩ := A0.four
  obtain ⟨d0, d1, d2, d3, g0, g1, g2, g3⟩ := A1.four
  clear hW hn hm hlt hq hlen ht
  go_enter Try.func113, Try.ntmps113
  go_upto_region 1 with fail
  rw [HW.out]
  clear HW
  go_wp2_with (first
    | (go_at_call 124; refine (p_cmpWords a b c d e f g h n m HN.out HM.out _ hw hw').mono ?_; rintro e' w' ⟨rfl, hE⟩; rw [HS.out]; have R0 := A0.ext hE; have R1 := A1.ext hE; have R2 := A2.ext hE; have R3 := A3.ext hE; obtain ⟨c0, c1, c2, c3, f0, f1, f2, f3⟩ := R0.four; obtain ⟨d0, d1, d2, d3, g0, g1, g2, g3⟩ := R1.four; have E1 := E0.trans hE; clear hE)
    | (go_at_call 137; refine (p_length e f g h m HM.out _ hw').mono ?_; rintro e' w' ⟨rfl, hE⟩; rw [HLN.out]; have R0 := R0.ext hE; have R1 := R1.ext hE; have R2 := R2.ext hE; have R3 := R3.ext hE; obtain ⟨c0, c1, c2, c3, f0, f1, f2, f3⟩ := R0.four; obtain ⟨d0, d1, d2, d3, g0, g1, g2, g3⟩ := R1.four; have ck := R1.at k hkM; rw [HT.out] at ck; have E1 := E1.trans hE; clear hE)
    | (go_at_call 139; refine (b_lz t _ bt bt0).mono ?_; rintro e w' ⟨s, rfl, k1, k2, k3, rfl⟩; have HDB := hide (HTW.out.2.2 s k1 (by rw [HT.out]; exact k2)); clear k2 k3)
    | (go_at_call_of 140 (Value.agg #[Value.int IntKind.u64 (e : Int), Value.int IntKind.u64 (f : Int), Value.int IntKind.u64 (g : Int), Value.int IntKind.u64 (h : Int)]); refine (p_shiftUp e f g h m s HM.out _ hw' k1).mono ?_; rintro e' w' ⟨u0, u1, u2, u3, r, rfl, wu, hu, hr, hE⟩; have HU := hide hu; have R0 := R0.ext hE; have R2 := R2.ext hE; have R3 := R3.ext hE; obtain ⟨c0, c1, c2, c3, f0, f1, f2, f3⟩ := R0.four; have l0 := R0.lt; have E1 := E1.trans hE; clear hE hu)
    | (go_at_call 140; refine (p_shiftUp a b c d n s HN.out _ hw k1).mono ?_; rintro e' w'' ⟨v0, v1, v2, v3, o, rfl, wv, hv, ho, hE⟩; have HV := hide hv; obtain ⟨bU, bR⟩ := two_kept hE; have AU : Arr w'' w'.heap.size 118 [u0, u1, u2, u3] := bU; have AR : Arr w'' (w'.heap.size + 1) 107 [0, 0, 0, 0, 0] := bR; have AQ := ((R2.ext (ext_alloc _ _)).ext (ext_alloc _ _)).ext hE; have AT := ((R3.ext (ext_alloc _ _)).ext (ext_alloc _ _)).ext hE; have E2 := ((E1.trans (ext_alloc _ _)).trans (ext_alloc _ _)).trans hE; have lU := R2.lt; have lT := R3.lt; clear hE hv bU bR))
  have hA4 := arr_new w'' 118 [v0, v1, v2, v3] #[.int .u64 (v0 : Int), .int .u64 (v1 : Int), .int .u64 (v2 : Int), .int .u64 (v3 : Int)] rfl
  have x1 := AU.ext (ext_alloc w'' (.cells #[.int .u64 (v0 : Int), .int .u64 (v1 : Int), .int .u64 (v2 : Int), .int .u64 (v3 : Int)] 118))
  have x2 := AR.ext (ext_alloc w'' (.cells #[.int .u64 (v0 : Int), .int .u64 (v1 : Int), .int .u64 (v2 : Int), .int .u64 (v3 : Int)] 118))
  have x3 := AQ.ext (ext_alloc w'' (.cells #[.int .u64 (v0 : Int), .int .u64 (v1 : Int), .int .u64 (v2 : Int), .int .u64 (v3 : Int)] 118))
  have x4 := AT.ext (ext_alloc w'' (.cells #[.int .u64 (v0 : Int), .int .u64 (v1 : Int), .int .u64 (v2 : Int), .int .u64 (v3 : Int)] 118))
  have x5 := E2.trans (ext_alloc w'' (.cells #[.int .u64 (v0 : Int), .int .u64 (v1 : Int), .int .u64 (v2 : Int), .int .u64 (v3 : Int)] 118))
  have lR := AR.lt
  generalize w''.alloc (.cells #[.int .u64 (v0 : Int), .int .u64 (v1 : Int), .int .u64 (v2 : Int), .int .u64 (v3 : Int)] 118) = W2 at *
  generalize w''.heap.size = gL at *
  have r0 := x2.at 0 (by simp)
  have r1 := x2.at 1 (by simp)
  have r2 := x2.at 2 (by simp)
  have r3 := x2.at 3 (by simp)
  have r4 := x2.at 4 (by simp)
  simp only [List.getElem_cons_zero, List.getElem_cons_succ] at r0 r1 r2 r3 r4
  have q0 := x2.free 0
  have q1 := x2.free 1
  have q2 := x2.free 2
  have q3 := x2.free 3
  have q4 := x2.free 4
  obtain ⟨i0, i1, i2, i3, j0, j1, j2, j3⟩ := hA4.four
  have hcp := copy4 W2.drew (w'.heap.size + 1) gL v0 v1 v2 v3 x2.drew hA4.drew
  have y2 := hide ((((x2.drew.set 0 v0).set 1 v1).set 2 v2).set 3 v3)
  have y1 := hide ((((x1.drew.far (b := w'.heap.size + 1) (by omega) 0 (.int .u64 (v0 : Int))).far (b := w'.heap.size + 1) (by omega) 1 (.int .u64 (v1 : Int))).far (b := w'.heap.size + 1) (by omega) 2 (.int .u64 (v2 : Int))).far (b := w'.heap.size + 1) (by omega) 3 (.int .u64 (v3 : Int)))
  have y3 := hide ((((x3.drew.far (b := w'.heap.size + 1) (by omega) 0 (.int .u64 (v0 : Int))).far (b := w'.heap.size + 1) (by omega) 1 (.int .u64 (v1 : Int))).far (b := w'.heap.size + 1) (by omega) 2 (.int .u64 (v2 : Int))).far (b := w'.heap.size + 1) (by omega) 3 (.int .u64 (v3 : Int)))
  have y4 := hide ((((x4.drew.far (b := w'.heap.size + 1) (by omega) 0 (.int .u64 (v0 : Int))).far (b := w'.heap.size + 1) (by omega) 1 (.int .u64 (v1 : Int))).far (b := w'.heap.size + 1) (by omega) 2 (.int .u64 (v2 : Int))).far (b := w'.heap.size + 1) (by omega) 3 (.int .u64 (v3 : Int)))
  have y5 := hide (ext_four (x5.trans (ext_drew _)) (b := w'.heap.size + 1) (by have := E1.size; omega) (.int .u64 (v0 : Int)) (.int .u64 (v1 : Int)) (.int .u64 (v2 : Int)) (.int .u64 (v3 : Int)))
  have HE1 := hide E1
  clear AU AR AQ AT E2
  go_cut [] (fun wx => Arr wx (w'.heap.size + 1) 107 [v0, v1, v2, v3, 0] ∧ Arr wx w'.heap.size 118 [u0, u1, u2, u3] ∧ Arr wx (w.heap.size + 1 + 1) 118 [0, 0, 0, 0] ∧ Arr wx (w.heap.size + 1 + 1 + 1) 118 [0, 0, 0, 0] ∧ Ext w wx)
  case first =>
    go_region
    all_goals go_wp2_with fail
    all_goals go_meet
    all_goals exact ⟨y2.out, y1.out, y3.out, y4.out, y5.out⟩
  case rest =>
    clear y1 y2 y3 y4 y5 x1 x2 x3 x4 x5 hA4 hcp
    obtain ⟨y2, y1, y3, y4, y5⟩ := hcut
    have r4 := y2.at 4 (by simp)
    have q4 := y2.free 4
    simp only [List.getElem_cons_zero, List.getElem_cons_succ] at r4
    have HI := hide (long_init [v0, v1, v2, v3] o n m s k rfl HV.out (by have := mag_lt (w64_four hw).1 (w64_four hw).2.1 (w64_four hw).2.2.1 (w64_four hw).2.2.2; rw [HN.out] at this; exact this) (by omega) HTW.out.2.1)
    have HUT := hide (up_take [u0, u1, u2, u3] r (m * 2 ^ s) (k + 1) rfl (by omega) HU.out HDB.out)
    have wo : o < 18446744073709551616 := Nat.lt_of_lt_of_le ho (Nat.le_trans (Nat.pow_le_pow_right (by omega) (Nat.le_of_lt k1)) (by decide))
    have wR0 : W64 [v0, v1, v2, v3, o] := by
      obtain ⟨b0, b1, b2, b3⟩ := w64_four wv
      intro x hx; simp at hx; omega
    have z2 := hide (y2.set 4 o)
    have z1 := hide (y1.far (b := w'.heap.size + 1) (by omega) 4 (.int .u64 (o : Int)))
    have z3 := hide (y3.far (b := w'.heap.size + 1) (by omega) 4 (.int .u64 (o : Int)))
    have z4 := hide (y4.far (b := w'.heap.size + 1) (by omega) 4 (.int .u64 (o : Int)))
    have z5 := hide (ext_set y5 (g := w'.heap.size + 1) (by have := HE1.out.size; omega) 4 (.int .u64 (o : Int)))
    have HDP : Hid (0 < m * 2 ^ s) := by
      have h1 := HTW.out.2.1
      have h2 : 0 < 18446744073709551616 ^ k := Nat.pow_pos (by omega)
      exact Nat.mul_pos (Nat.lt_of_lt_of_le h2 h1) (Nat.two_pow_pos s)
    have hsz := HE1.out.size
    obtain ⟨K, hK⟩ : ∃ K, 18446744073709551616 ^ (k + 1) = K := ⟨_, rfl⟩
    have HK := hide hK
    have HDK : Hid (m * 2 ^ s ≤ K) := by rw [← hK]; exact Nat.le_of_lt HDB.out
    have gne : w'.heap.size ≠ w'.heap.size + 1 := by omega
    clear hK y1 y2 y3 y4 y5
    go_wp2_with fail
    go_loopw [16] (fun i wr => ∃ (j : Nat) (R Q : List Nat), i = .int .i64 ((j : Int) - 1) ∧ j ≤ 4 - k ∧ Hid (LongRel (n * 2 ^ s) (m * 2 ^ s) R Q j) ∧ W64 R ∧ W64 Q ∧ Hid (Arr wr (w'.heap.size + 1) 107 R) ∧ Hid (Arr wr w'.heap.size 118 [u0, u1, u2, u3]) ∧ Hid (Arr wr (w.heap.size + 1 + 1) 118 Q) ∧ Hid (Arr wr (w.heap.size + 1 + 1 + 1) 118 [0, 0, 0, 0]) ∧ Ext w wr) (fun i _ => (intOf i + 1).toNat)
    case atStart => exact ⟨4 - k, [v0, v1, v2, v3, o], [0, 0, 0, 0], by go_num, by omega, HI.out, wR0, (by intro x hx; simp at hx; omega), z2, z1, z3, z4, z5.out⟩
    case round =>
      clear z1 z2 z3 z4 z5 r4 q4
      obtain ⟨j, R, Q, rfl, hj, HR, wR, wQ, z2, z1, z3, z4, hE⟩ := hrel
      by_cases hj0 : j = 0
      · subst hj0
        have HF := hide (long_done HR.out)
        obtain ⟨r0, r1, r2, r3, r5, rfl⟩ := five_list HR.out.1
        obtain ⟨q0', q1', q2', q3', rfl⟩ := four_list HR.out.2.1
        have wr4 : W64 [r0, r1, r2, r3] := fun x hx => wR x (by simp at hx ⊢; omega)
        have HR4 : Hid (mag4 r0 r1 r2 r3 = val [r0, r1, r2, r3, r5]) := by
          have h1 := HF.out.2.2
          have h2 := HDB.out
          have h3 : (18446744073709551616 : Nat) ^ (k + 1) ≤ 115792089237316195423570985008687907853269984665640564039457584007913129639936 := by rw [← p4]; exact Nat.pow_le_pow_right (by omega) (by omega)
          have h4 : val [r0, r1, r2, r3, r5] < 115792089237316195423570985008687907853269984665640564039457584007913129639936 := Nat.lt_of_lt_of_le (Nat.lt_trans h1 h2) h3
          exact five_top h4
        have x0 := z2.out.at 0 (by simp)
        have x1 := z2.out.at 1 (by simp)
        have x2 := z2.out.at 2 (by simp)
        have x3 := z2.out.at 3 (by simp)
        simp only [List.getElem_cons_zero, List.getElem_cons_succ] at x0 x1 x2 x3
        obtain ⟨i0, i1, i2, i3, j0, j1, j2, j3⟩ := z3.out.four
        obtain ⟨k0, kk1, kk2, kk3, l0, l1, l2, l3⟩ := z4.out.four
        have hslH := slHead 107 5 (w'.heap.size + 1) 4 4 (by omega) (by kernel_rfl) (by kernel_rfl) (by kernel_rfl) (by omega) (by omega)
        have hat1 : ∀ w2, (Instr.arrayAt 118 (.slice (some ⟨w'.heap.size + 1, 0, none⟩) 4 5)).run Try.prog w2 = .ok (.pointer (some ⟨w'.heap.size + 1, 0, none⟩)) w2 := fun w2 => run_arrayAt w2 118 _ 4 _ 4 5 Try.underlying118 (by omega)
        go_wp2_with fail
        go_region_with (go_at_call 142; refine (p_shiftDown r0 r1 r2 r3 _ s HR4.out _ wr4 k1).mono ?_; rintro e' wd ⟨b0, b1, b2, b3, rfl, wb, hb, hE2⟩; rw [HF.out.2.1] at hb; have HB := hide hb; have y3 := (z3.out.drew.ext hE2); have y4 := (z4.out.drew.ext hE2); have y5 := (hE.trans (ext_drew _)).trans hE2; obtain ⟨i0, i1, i2, i3, j0, j1, j2, j3⟩ := y3.four; obtain ⟨k0, kk1, kk2, kk3, l0, l1, l2, l3⟩ := y4.four; clear hb hE2)
        all_goals go_wp2_with fail
        all_goals exact bodyPost_ret (v := .tuple #[.agg #[.int .u64 (q0' : Int), .int .u64 (q1' : Int), .int .u64 (q2' : Int), .int .u64 (q3' : Int)], .agg #[.int .u64 (b0 : Int), .int .u64 (b1 : Int), .int .u64 (b2 : Int), .int .u64 (b3 : Int)]]) (by simp [results, Try.results113, go_sem, i0, i1, i2, i3, k0, kk1, kk2, kk3]) rfl ⟨q0', q1', q2', q3', b0, b1, b2, b3, rfl, wQ, wb, HF.out.1, HB.out, ext_four (ext_four y5 (by omega) _ _ _ _) (by omega) _ _ _ _⟩
      · obtain ⟨i, rfl⟩ : ∃ i, j = i + 1 := ⟨j - 1, by omega⟩
        have hseg := long_seg HR.out (k := k + 1) (by omega) HK.out HDK.out wR
        have HST : Hid (∀ (os : List Nat) (d : Nat), os.length = k + 1 + 1 → val os = val ((R.drop i).take (k + 1 + 1)) % (m * 2 ^ s) → d = val ((R.drop i).take (k + 1 + 1)) / (m * 2 ^ s) → LongRel (n * 2 ^ s) (m * 2 ^ s) (R.take i ++ os ++ R.drop (i + (k + 1) + 1)) (Q.set i d) i) := fun os d h1 h2 h3 => long_step HR.out (by omega) (by omega) HK.out HDK.out HDP.out wR h1 h2 h3
        have hRl : Hid (R.length = 5) := HR.out.1
        have hQl : Hid (Q.length = 4) := HR.out.2.1
        have HCT : Hid (R.take i ++ (R.drop i).take (k + 1 + 1) ++ R.drop (i + (k + 1) + 1) = R) := by
          unfold Hid
          rw [List.append_assoc, show i + (k + 1) + 1 = i + (k + 1 + 1) by omega, ← List.drop_drop, List.take_append_drop, List.take_append_drop]
        have HPA : Hid (Arr wr (w'.heap.size + 1) 107 (R.take i ++ (R.drop i).take (k + 1 + 1) ++ R.drop (i + (k + 1) + 1))) := by rw [HCT.out]; exact z2
        have T1 : Hid ((R.take i).length = i) := by unfold Hid; rw [List.length_take, hRl.out]; omega
        have T2 : Hid (((R.drop i).take (k + 1 + 1)).length = k + 1 + 1) := by unfold Hid; rw [List.length_take, List.length_drop, hRl.out]; omega
        have T3 : Hid (([u0, u1, u2, u3].take (k + 1)).length = k + 1) := by unfold Hid; rw [List.length_take]; simp; omega
        have wp2 : W64 ((R.drop i).take (k + 1 + 1)) := w64_take (w64_drop wR i) _
        have wq2 : W64 ([u0, u1, u2, u3].take (k + 1)) := w64_take wu _
        have hrd : Reads wr w'.heap.size 0 ([u0, u1, u2, u3].take (k + 1)) := ⟨z1.out.lt, fun x hx => by
          have hx2 : x < [u0, u1, u2, u3].length := by rw [List.length_take] at hx; omega
          rw [Nat.zero_add, z1.out.at x hx2, List.getElem_take]⟩
        have HRD := hide hrd
        have HLT : Hid (val ((R.drop i).take (k + 1 + 1)) < val ([u0, u1, u2, u3].take (k + 1)) * 18446744073709551616) := by
          unfold Hid; rw [HUT.out, hseg.1]; exact hseg.2.1
        have hsl2 := slRun 107 5 (w'.heap.size + 1) i ((i : Int) + ((k : Int) + 1) + 1) (i + (k + 1) + 1) (by omega) (by kernel_rfl) (by kernel_rfl) (by kernel_rfl) (by omega) (by omega) (by omega)
        rw [show i + (k + 1) + 1 - i = k + 1 + 1 by omega] at hsl2
        have hiQ : i < Q.length := by rw [hQl.out]; omega
        have lq := z3.out.lt
        have hi4 : (i : Int) < 4 := by omega
        clear hseg hrd
        go_wp2_with (go_at_call 141; refine (p_takeDigit (w'.heap.size + 1) i k (5 - i) w'.heap.size 0 4 107 (R.take i) ((R.drop i).take (k + 1 + 1)) (R.drop (i + (k + 1) + 1)) ([u0, u1, u2, u3].take (k + 1)) _ HPA.out T1.out T2.out T3.out HRD.out gne (by omega) wp2 wq2 HLT.out).mono ?_; rintro e' wd ⟨dg, os, rfl, hdg, hdl, hol, wos, hov, hAd, hUd⟩; rw [HUT.out] at hdg hov; have HN2 := hide (HST.out os dg hol hov hdg); have x1 := (z1.out.upd hUd gne); have x3 := (z3.out.upd hUd (by omega)); have x4 := (z4.out.upd hUd (by omega)); have x5 := hUd.ext hE (by omega); have cq := x3.at i hiQ; have fq := x3.free i; have lx := x3.lt; have X1 := hide (x1.far (b := w.heap.size + 1 + 1) (by omega) i (.int .u64 (dg : Int))); have X2 := hide (hAd.far (b := w.heap.size + 1 + 1) (by omega) i (.int .u64 (dg : Int))); have X3 := hide (x3.set i dg); have X4 := hide (x4.far (b := w.heap.size + 1 + 1) (by omega) i (.int .u64 (dg : Int))); have X5 := hide (ext_set x5 (g := w.heap.size + 1 + 1) (by omega) i (.int .u64 (dg : Int))); have HOL := hide hol; clear hdg hov hAd hUd x1 x3 x4 x5 hol)
        exact ⟨⟨i, _, _, by go_num, by omega, HN2, w64_cat (w64_cat (w64_take wR i) wos) (w64_drop wR _), w64_set wQ _ _ hdl, X2, X1, X3, X4, X5.out⟩, by first | (simp [intOf]; done) | (simp [intOf]; omega)⟩
theorem p_divWords (a b c d e f g h n m : Nat) (hn : mag4 a b c d = n) (hm : mag4 e f g h = m) (w : World) (hw : W64 [a, b, c, d]) (hw' : W64 [e, f, g, h]) (hm0 : 0 < m) :
    Calls Try.prog 113 #[.agg #[.int .u64 (a : Int), .int .u64 (b : Int), .int .u64 (c : Int), .int .u64 (d : Int)], .agg #[.int .u64 (e : Int), .int .u64 (f : Int), .int .u64 (g : Int), .int .u64 (h : Int)]] w (TwoWords (n / m) (n % m) w) := by
  by_cases hlt : n < m
  · exact p_divWords_lt a b c d e f g h n m hn hm w hw hw' hlt
  · have hl1 : (limbs m).length ≤ 4 := limbs_len_le.2 (by rw [p4, ← hm]; exact mag_lt (w64_four hw').1 (w64_four hw').2.1 (w64_four hw').2.2.1 (w64_four hw').2.2.2)
    have hl0 : (limbs m).length ≠ 0 := fun h0 => by
      have := List.eq_nil_of_length_eq_zero h0
      rw [limbs_nil] at this; omega
    by_cases h1 : (limbs m).length = 1
    · exact p_divWords_one a b c d e f g h n m hn hm w hw hw' hlt h1
    · exact p_divWords_many a b c d e f g h n m ((limbs m).length - 1) hn hm w hw hw' hlt (by omega) (by omega) (by omega)
end Go.Proofs.Ytbnbkondbdakeaa
