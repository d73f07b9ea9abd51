/- Layer 10: the program's and the reference's Encode and Decode. Conditions: the slices read as bytes and numbers. -/
import Derived.Test.YtjmigglibidbdaaTms1
namespace Go.Proofs.Ytjmigglibidbdaa
set_option linter.unusedVariables false
set_option linter.unusedSimpArgs false
open Go Go.RowKit
set_option maxHeartbeats 1600000 in
set_option maxRecDepth 100000 in
theorem p_codes (A : Option Addr) (n c : Nat) (l : List Int) (W : World) (hl : TimesAt W A l) (hn : l.length = n) (hn2 : n ≤ 65536) (hi : incB l = true) :
    Calls Try.prog 26 #[.slice A n c] W (OwnRetQ (codL l) W) := by
  by_cases h2 : n < 2
  · have e : codL l = [] := by
      have := codL_len l
      exact List.length_eq_zero_iff.1 (by omega)
    rw [e]
    have d1 : decide ((n : Int) < 2) = true := decide_eq_true (by omega)
    clear hl hn e hi
    go_enter Try.func26, Try.ntmps26
    go_wp2_with fail
    go_ret
    exact ⟨_, rfl, OwnQ.nil_ _ _, Ext.refl _⟩
  · obtain ⟨m, hm⟩ : ∃ m, n - 1 = m := ⟨_, rfl⟩
    have hLl : (codL l).length = m := by rw [codL_len]; omega
    have hLq := codL_q hl.1
    have hm1 : 1 ≤ m := by omega
    have hnm : n = m + 1 := by omega
    have hm2 : m ≤ 65536 := by omega
    have d1 : decide ((n : Int) < 2) = false := decide_eq_false (by omega)
    have en : (n : Int) - 1 = (m : Int) := by omega
    have hmk := run_mk64 m m (Nat.le_refl _) (by omega)
    have KD : Hid (∀ k, k < m → ∀ w, Calls Try.prog 38 #[.int .i64 (l.getD (k + 1) 0), .int .i64 (l.getD k 0)] w (RetSame (.int .u64 (dfT l k : Int)) w)) := hide (fun k hk w => p_dist _ _ w (hl.1.get _) (hl.1.get _))
    have KB : Hid (∀ k, dfT l k < 18446744073709551616) := hide (fun k => dfT_lt hl.1 k)
    have K0 : Hid (1 ≤ dfT l 0) := hide (by have := incB_iff.1 hi 0 (by omega); unfold dfT; omega)
    have H0 : Hid ((codL l).getD 0 0 = dfT l 0 - 1) := hide (by rw [codL_get l (by omega)]; rfl)
    have HK : Hid (∀ k, 1 ≤ k → k < m → (codL l).getD k 0 = zig (wrap64 ((dfT l k : Int) - (dfT l (k - 1) : Int)))) := hide (fun k h1 h2 => by rw [codL_get l (by omega), codK, if_neg (by omega)])
    obtain ⟨b, off, rfl, hb, hc⟩ := hl.2.2 (by omega)
    have c0 := hc 0 (by omega)
    have c1 := hc 1 (by omega)
    have HC : Hid (∀ wr, Ext W wr → ∀ k, k < n → wr.cell? ⟨b, off + k, none⟩ = some (.int .i64 (l.getD k 0))) := hide (fun wr hE k hk => (hE.cell (p := ⟨b, off + k, none⟩) hb).trans (hc k (by omega)))
    obtain ⟨L, hL⟩ : ∃ L, codL l = L := ⟨_, rfl⟩
    rw [hL] at hLl hLq H0 HK ⊢
    rw [← part_zero L m] at hmk
    have HLl := hide hLl
    have HLq := hide hLq
    obtain ⟨d0, hd0⟩ : ∃ d, dfT l 0 = d := ⟨_, rfl⟩
    have KD0 := hide (KD.out 0 (by omega))
    obtain ⟨x0, hx0⟩ : ∃ x, l.getD 0 0 = x := ⟨_, rfl⟩
    obtain ⟨x1, hx1⟩ : ∃ x, l.getD 1 0 = x := ⟨_, rfl⟩
    rw [Nat.zero_add, hd0, hx0, hx1] at KD0
    rw [hd0] at K0 H0
    rw [hx0] at c0
    rw [hx1] at c1
    have hb0 := KB.out 0
    rw [hd0] at hb0
    have Hd0 := hide hd0
    have e0 : IntKind.u64.wrap ((d0 : Int) - 1) = ((d0 - 1 : Nat) : Int) := by
      have := K0.out
      rw [wrap_u64']; omega
    have ixa : ∀ w, (Instr.indexAt 22 (.slice (some ⟨b, off, none⟩) n c) (.int .i64 1)).run Try.prog w = .ok (.pointer (some ⟨b, off + 1, none⟩)) w := fun w => idxT b off n c 1 (by omega) w
    have ixb : ∀ w, (Instr.indexAt 22 (.slice (some ⟨b, off, none⟩) n c) (.int .i64 0)).run Try.prog w = .ok (.pointer (some ⟨b, off, none⟩)) w := fun w => idxT b off n c 0 (by omega) w
    have Hnm := hide hnm
    clear hl hn hi hL hLl hLq hc hd0 hx0 hx1 hm hnm
    go_enter Try.func26, Try.ntmps26
    go_upto_region 4 with fail
    have B1 := Blk.new W 52 (q8s (part L m 0)).toArray
    have E1 := ext_alloc W (.cells (q8s (part L m 0)).toArray 52)
    obtain ⟨w1, hw1⟩ : ∃ w1, W.alloc (.cells (q8s (part L m 0)).toArray 52) = w1 := ⟨_, rfl⟩
    rw [hw1] at B1 E1 ⊢
    obtain ⟨g, hg⟩ : ∃ g, W.heap.size = g := ⟨_, rfl⟩
    rw [hg] at B1 ⊢
    have hgW : W.heap.size ≤ g := by omega
    have c0 := (E1.cell (p := ⟨b, off + 0, none⟩) hb).trans c0
    have c1 := (E1.cell (p := ⟨b, off + 1, none⟩) hb).trans c1
    rw [Nat.add_zero] at c0
    have B1 := hide B1
    have E1 := hide E1
    clear hw1 hg hmk
    go_quiet ((go_at_call 38; exact Calls.quiet_of_same ((KD0.out _).mono fun _ _ h => ⟨h.1, h.2.symm⟩)))
    rename_i nq
    have B2 := B1.out.ext (ext_drewN w1 nq)
    have E2 := E1.out.trans (ext_drewN w1 nq)
    obtain ⟨w2, hw2⟩ : ∃ w2, w1.drewN nq = w2 := ⟨_, rfl⟩
    rw [hw2] at B2 E2 ⊢
    have hcx := B2.cell 0
    have f2 := B2.frozen 0
    rw [List.getElem?_toArray, List.getElem?_eq_getElem (by rw [q8s_len, part_len HLl.out (by omega)]; exact hm1)] at hcx
    have Z3 := hide (part_store B2 HLl.out hm1 H0.out)
    have E3 := hide (Below.setCell E2 (p := ⟨g, 0, none⟩) hgW (.int .u64 ((d0 - 1 : Nat) : Int)))
    have hix0 := fun w => idx64B g m m 0 hm1 w
    clear hw2 B1 B2 E1 E2 c0 c1
    go_wp2_with fail
    go_loopw [4, 5] (fun d i wr => ∃ k x : Nat, k + 1 ≤ m ∧ i = .int .i64 ((k : Int) + 1) ∧ d = .int .u64 (x : Int) ∧ Hid (dfT l k = x) ∧ Hid (Blk wr g 52 (q8s (part L m (k + 1))).toArray) ∧ Hid (Ext W wr)) (fun _ i _ => m - (intOf i).toNat)
    case atStart => exact ⟨0, d0, hm1, rfl, rfl, Hd0, Z3, E3⟩
    case round =>
      clear Z3 E3 hcx f2 ixa ixb hix0 KD0 Hd0 hb0 e0 H0 K0
      obtain ⟨k, x, hk, rfl, rfl, HX, HB, HE⟩ := hrel
      by_cases hlt : k + 1 < m
      · obtain ⟨y, hy⟩ : ∃ y, dfT l (k + 1) = y := ⟨_, rfl⟩
        obtain ⟨q, hq⟩ : ∃ q, L.getD (k + 1) 0 = q := ⟨_, rfl⟩
        have hqz := HK.out (k + 1) (by omega) hlt
        have hyb := KB.out (k + 1)
        have hxb := KB.out k
        have hnm := Hnm.out
        have c0 := HC.out wr HE.out (k + 1) (by omega)
        have c1 := HC.out wr HE.out (k + 1 + 1) (by omega)
        have KD1 := hide (KD.out (k + 1) hlt)
        obtain ⟨x0, hx0⟩ : ∃ x, l.getD (k + 1) 0 = x := ⟨_, rfl⟩
        obtain ⟨x1, hx1⟩ : ∃ x, l.getD (k + 1 + 1) 0 = x := ⟨_, rfl⟩
        rw [Nat.add_sub_cancel, hy, hq, HX.out] at hqz
        rw [hy] at hyb KD1
        rw [HX.out] at hxb
        rw [hx0] at c0 KD1
        rw [hx1] at c1 KD1
        obtain ⟨z, hz⟩ : ∃ z, wrap64 ((y : Int) - (x : Int)) = z := ⟨_, rfl⟩
        rw [hz] at hqz
        have hz2 := wrap64_64 ((y : Int) - (x : Int))
        rw [hz] at hz2
        have ez : wrap64 (IntKind.u64.wrap ((y : Int) - (x : Int))) = z := by rw [← hz, wrap_u64']; simp only [wrap64]; omega
        have KZ : Hid (∀ w, Calls Try.prog 39 #[.int .i64 z] w (RetSame (.int .u64 (q : Int)) w)) := hide (fun w => by rw [hqz]; exact p_zigzag z w hz2.1 hz2.2)
        have ixa : ∀ w, (Instr.indexAt 22 (.slice (some ⟨b, off, none⟩) n c) (.int .i64 ((k : Int) + 1 + 1))).run Try.prog w = .ok (.pointer (some ⟨b, off + (k + 1 + 1), none⟩)) w := fun w => idxT b off n c (k + 1 + 1) (by omega) w
        have ixb : ∀ w, (Instr.indexAt 22 (.slice (some ⟨b, off, none⟩) n c) (.int .i64 ((k : Int) + 1))).run Try.prog w = .ok (.pointer (some ⟨b, off + (k + 1), none⟩)) w := fun w => idxT b off n c (k + 1) (by omega) w
        have ixc : ∀ w, (Instr.indexAt 57 (.slice (some ⟨g, 0, none⟩) m m) (.int .i64 ((k : Int) + 1))).run Try.prog w = .ok (.pointer (some ⟨g, k + 1, none⟩)) w := fun w => idx64B g m m (k + 1) hlt w
        have Hq := hide hq
        have Hy := hide hy
        have d2 : decide ((k : Int) + 1 < (m : Int)) = true := decide_eq_true (by omega)
        clear hq hy hqz hx0 hx1 hz hz2 hnm hxb hyb
        go_upto_region 9 with fail
        go_quiet ((go_at_call 38; exact Calls.quiet_of_same ((KD1.out _).mono fun _ _ h => ⟨h.1, h.2.symm⟩)))
        rename_i nq
        have B2 := HB.out.ext (ext_drewN wr nq)
        have E2 := HE.out.trans (ext_drewN wr nq)
        obtain ⟨w2, hw2⟩ : ∃ w2, wr.drewN nq = w2 := ⟨_, rfl⟩
        rw [hw2] at B2 E2 ⊢
        have hcx := B2.cell (k + 1)
        have f2 := B2.frozen (k + 1)
        rw [List.getElem?_toArray, List.getElem?_eq_getElem (by rw [q8s_len, part_len HLl.out (by omega)]; exact hlt)] at hcx
        have Z3 := hide (part_store B2 HLl.out hlt Hq.out)
        have E3 := hide (Below.setCell E2 (p := ⟨g, k + 1, none⟩) hgW (.int .u64 (q : Int)))
        clear hw2 B2 E2 c0 c1 HB HE
        go_wp2_with (go_at_call 39; (with_reducible refine (KZ.out _).mono ?_); rintro e w3 ⟨rfl, rfl⟩)
        go_roundw
        case rel => exact ⟨k + 1, y, by omega, by go_num, by go_num, Hy, Z3, E3⟩
        case measure => simp [intOf]; omega
      · have hkm : k + 1 = m := by omega
        have d2 : decide ((k : Int) + 1 < (m : Int)) = false := decide_eq_false (by omega)
        have hB := HB.out
        rw [hkm, part_end HLl.out] at hB
        have hB := hide hB
        clear hkm HB
        go_wp2_with fail
        go_ret
        exact ⟨_, rfl, own_q hgW hB.out HLl.out (by omega) HLq.out, HE.out⟩
set_option maxHeartbeats 800000 in
set_option maxRecDepth 100000 in
theorem p_encT (A : Option Addr) (n c : Nat) (l : List Int) (W : World) (hl : TimesAt W A l) (hn : l.length = n) :
    Calls Try.prog 11 #[.slice A n c] W (EncRet (enT l).1 (enT l).2 W) := by
  have hn63 : n ≤ 9223372036854775807 := by have := hl.2.1; omega
  by_cases hc : 65536 < n
  · have e : enT l = ([], 3) := if_pos (by omega)
    rw [e]
    have d1 : decide ((65536 : Int) < (n : Int)) = true := decide_eq_true (by omega)
    clear hl hn e
    go_enter Try.func11, Try.ntmps11
    go_wp2_with fail
    go_ret2
    exact ⟨_, rfl, OwnB.nil_ _ _, Ext.refl _⟩
  · have d1 : decide ((65536 : Int) < (n : Int)) = false := decide_eq_false (by omega)
    cases hi : incB l with
    | false =>
      have e : enT l = ([], 7) := by unfold enT; rw [if_neg (by omega), if_neg (by rw [hi]; decide)]
      rw [e]
      have KI := hide (p_inc A n c l W hl hn false hi)
      clear hl hn e hi
      go_enter Try.func11, Try.ntmps11
      go_wp2_with (go_at_call 14; (with_reducible refine (KI.out).mono ?_); rintro e w1 ⟨rfl, hE⟩; have E1 := hide hE; clear hE)
      go_ret2
      exact ⟨_, rfl, OwnB.nil_ _ _, E1.out⟩
    | true =>
      have e := enT_of (l := l) (by omega) hi
      rw [e]
      have KI := hide (p_inc A n c l W hl hn true hi)
      obtain ⟨m, hm⟩ : ∃ m, (codL l).length = m := ⟨_, rfl⟩
      have KC : Hid (∀ w, Ext W w → Calls Try.prog 26 #[.slice A n c] w fun e w' => ∃ A1 c1, e = .returned (.slice A1 m c1) ∧ WordsAt w' A1 (codL l) ∧ Ext w w') := hide (fun w hE => (p_codes A n c l w (hl.ext hE) hn (by omega) hi).mono fun e w' h => by
        obtain ⟨v, rfl, ho, hE⟩ := h
        obtain ⟨A1, c1, rfl, _, _, hw⟩ := ho.at_
        exact ⟨A1, c1, by rw [hm], hw, hE⟩)
      have KE : Hid (∀ A1 c1 w, WordsAt w A1 (codL l) → Calls Try.prog 25 #[.slice A1 m c1] w (EncRet (enN (codL l)).1 (enN (codL l)).2 w)) := hide (fun A1 c1 w h => p_encN A1 m c1 (codL l) w h hm)
      obtain ⟨F, hF⟩ : ∃ F, (enN (codL l)).1 = F := ⟨_, rfl⟩
      obtain ⟨z, hz⟩ : ∃ z, (enN (codL l)).2 = z := ⟨_, rfl⟩
      rw [hF, hz] at KE ⊢
      clear hl hn e hi hm hF hz
      go_enter Try.func11, Try.ntmps11
      go_wp2_with (first
        | (go_at_call 14; (with_reducible refine (KI.out).mono ?_); rintro e w1 ⟨rfl, hE⟩; have E1 := hide hE; have kc := hide (KC.out w1 hE); clear hE)
        | (go_at_call 26; (with_reducible refine (kc.out).mono ?_); rintro e w2 ⟨A1, c1, rfl, hw, hE⟩; have E2 := hide (Ext.trans E1.out hE); have ke := hide (KE.out A1 c1 w2 hw); clear hE hw)
        | (go_at_call 25; (with_reducible refine (ke.out).mono ?_); rintro e w3 ⟨v, rfl, hO, hE⟩; have O3 := hide (hO.less E2.out.size); have E3 := hide (Ext.trans E2.out hE); clear hE hO))
      go_ret2
      exact ⟨_, rfl, O3.out, E3.out⟩
theorem codL_take {l : List Int} {k : Nat} (h : k < (codL l).length) : (codL l).take (k + 1) = (codL l).take k ++ [codK l k] := by
  rw [take_succ h, codL_get l (by rw [codL_len] at h; exact h)]
set_option maxHeartbeats 3200000 in
set_option maxRecDepth 100000 in
theorem r_encT (A : Option Addr) (n c : Nat) (l : List Int) (W : World) (hl : TimesAt W A l) (hn : l.length = n) :
    Calls Try.prog 12 #[.slice A n c] W (EncRet (enT l).1 (enT l).2 W) := by
  have hn63 : n ≤ 9223372036854775807 := by have := hl.2.1; omega
  by_cases hc : 65536 < n
  · have e : enT l = ([], 3) := if_pos (by omega)
    rw [e]
    have d1 : decide ((65536 : Int) < (n : Int)) = true := decide_eq_true (by omega)
    clear hl hn e
    go_enter Try.func12, Try.ntmps12
    go_wp2_with fail
    go_ret2
    exact ⟨_, rfl, OwnB.nil_ _ _, Ext.refl _⟩
  · have d1 : decide ((65536 : Int) < (n : Int)) = false := decide_eq_false (by omega)
    cases hi : incB l with
    | false =>
      have e : enT l = ([], 7) := by unfold enT; rw [if_neg (by omega), if_neg (by rw [hi]; decide)]
      rw [e]
      have KI := hide (r_inc A n c l W hl hn false hi)
      clear hl hn e hi
      go_enter Try.func12, Try.ntmps12
      go_wp2_with (go_at_call 15; (with_reducible refine (KI.out).mono ?_); rintro e w1 ⟨rfl, hE⟩; have E1 := hide hE; clear hE)
      go_ret2
      exact ⟨_, rfl, OwnB.nil_ _ _, E1.out⟩
    | true =>
      have e := enT_of (l := l) (by omega) hi
      rw [e]
      have hq := codL_q hl.1
      have hLl : (codL l).length = n - 1 := by rw [codL_len, hn]
      have KI := hide (r_inc A n c l W hl hn true hi)
      have KE : Hid (∀ A1 m c1 w, (codL l).length = m → WordsAt w A1 (codL l) → Calls Try.prog 29 #[.slice A1 m c1] w (EncRet (enN (codL l)).1 (enN (codL l)).2 w)) := hide (fun A1 m c1 w hm h => r_encN A1 m c1 (codL l) w h hm)
      obtain ⟨F, hF⟩ : ∃ F, (enN (codL l)).1 = F := ⟨_, rfl⟩
      obtain ⟨z, hz⟩ : ∃ z, (enN (codL l)).2 = z := ⟨_, rfl⟩
      rw [hF, hz] at KE ⊢
      have KD : Hid (∀ k w, Calls Try.prog 27 #[.int .i64 (l.getD (k + 1) 0), .int .i64 (l.getD k 0)] w (RetSame (.int .u64 (dfT l k : Int)) w)) := hide (fun k w => r_dist _ _ w (hl.1.get _) (hl.1.get _))
      have KB : Hid (∀ k, dfT l k < 18446744073709551616) := hide (fun k => dfT_lt hl.1 k)
      have K0 : Hid (1 < n → 1 ≤ dfT l 0) := hide (fun h => by have := incB_iff.1 hi 0 (by omega); unfold dfT; omega)
      have HT : Hid (∀ k, k < n - 1 → (codL l).take (k + 1) = (codL l).take k ++ [codK l k]) := hide (fun k hk => codL_take (by omega))
      have HC : Hid (∀ k, codK l k < 18446744073709551616) := hide (fun k => codK_lt hl.1 k)
      have HL := hide hl
      have Hn := hide hn
      have HLl := hide hLl
      have hn2 : n ≤ 65536 := by omega
      clear hl hn e hi hq hLl hF hz hc
      go_enter Try.func12, Try.ntmps12
      go_upto_region 5 with (go_at_call 15; (with_reducible refine (KI.out).mono ?_); rintro e w1 ⟨rfl, hE⟩; have E1 := hide hE; clear hE)
      go_wp2_with fail
      go_loopw [4, 5, 6] (fun o d i wr => ∃ k x : Nat, (k = 0 ∨ k < n) ∧ i = .int .i64 ((k : Int) + 1) ∧ d = .int .u64 (x : Int) ∧ x < 18446744073709551616 ∧ Hid (0 < k → dfT l (k - 1) = x) ∧ Hid (OwnQ W.heap.size wr o ((codL l).take k)) ∧ Hid (Ext W wr)) (fun _ _ i _ => n - (intOf i).toNat)
      case atStart => exact ⟨0, 0, Or.inl rfl, rfl, rfl, by omega, hide (fun h => absurd h (by omega)), hide (OwnQ.nil_ _ _), E1⟩
      case round =>
        clear E1
        obtain ⟨k, x, hk, rfl, rfl, hx, HX, HO, HE⟩ := hrel
        by_cases hlt : k + 1 < n
        · obtain ⟨b, off, rfl, hb1, hc1⟩ := (HL.out.ext HE.out).2.2 (by have := Hn.out; omega)
          have c0 := hc1 k (by have := Hn.out; omega)
          have c1 := hc1 (k + 1) (by have := Hn.out; omega)
          have KD1 := hide (KD.out k)
          obtain ⟨y, hy⟩ : ∃ y, dfT l k = y := ⟨_, rfl⟩
          obtain ⟨x0, hx0⟩ : ∃ x, l.getD k 0 = x := ⟨_, rfl⟩
          obtain ⟨x1, hx1⟩ : ∃ x, l.getD (k + 1) 0 = x := ⟨_, rfl⟩
          have hyb := KB.out k
          have hst := HT.out k (by omega)
          obtain ⟨q, hq⟩ : ∃ q, codK l k = q := ⟨_, rfl⟩
          have hqb := HC.out k
          rw [hq] at hst hqb
          have hq2 := hq
          unfold codK at hq
          rw [hy] at KD1 hyb
          rw [hx0] at c0 KD1
          rw [hx1] at c1 KD1
          have ixa : ∀ w, (Instr.indexAt 22 (.slice (some ⟨b, off, none⟩) n c) (.int .i64 ((k : Int) + 1))).run Try.prog w = .ok (.pointer (some ⟨b, off + (k + 1), none⟩)) w := fun w => idxT b off n c (k + 1) (by omega) w
          have ixb : ∀ w, (Instr.indexAt 22 (.slice (some ⟨b, off, none⟩) n c) (.int .i64 (k : Int))).run Try.prog w = .ok (.pointer (some ⟨b, off + k, none⟩)) w := fun w => idxT b off n c k (by omega) w
          have d2 : decide ((k : Int) + 1 < (n : Int)) = true := decide_eq_true (by omega)
          have Hst := hide hst
          have HY : Hid (0 < k + 1 → dfT l (k + 1 - 1) = y) := hide (fun _ => hy)
          have hle : ((codL l).take k).length + [q].length ≤ 17592186044416 := by rw [List.length_take, HLl.out]; simp; omega
          obtain ⟨T, hT⟩ : ∃ T, (codL l).take k = T := ⟨_, rfl⟩
          rw [hT] at HO Hst hle
          clear hst hx0 hx1 hb1 hc1 hq2
          by_cases hk0 : k = 0
          · have d3 : ((k : Int) + 1 == 1) = true := by rw [beq_iff_eq]; omega
            have hy1 : 1 ≤ y := by have := K0.out (by omega); rw [← hy, hk0]; exact this
            rw [if_pos hk0] at hq
            have hqy : q = y - 1 := by rw [← hq, ← hy, hk0]
            have e0 : IntKind.u64.wrap ((y : Int) - 1) = (q : Int) := by rw [wrap_u64']; omega
            clear hq hqy hy1 hy hT hk0
            go_upto_region 10 with fail
            go_quiet ((go_at_call 27; exact Calls.quiet_of_same ((KD1.out _).mono fun _ _ h => ⟨h.1, h.2.symm⟩)))
            rename_i nq
            have E2 := HE.out.trans (ext_drewN wr nq)
            have O2 := HO.out.ext (ext_drewN wr nq)
            obtain ⟨w2, hw2⟩ : ∃ w2, wr.drewN nq = w2 := ⟨_, rfl⟩
            rw [hw2] at E2 O2 ⊢
            have O3 := hide (O2.alloc (.cells #[Value.int .u64 (q : Int)] 52))
            have hone := hide (one_atQ w2 q hqb _ rfl)
            have E3 := hide (Ext.trans E2 (ext_alloc w2 (.cells #[Value.int .u64 (q : Int)] 52)))
            clear hw2 E2 O2 c0 c1 HO HE
            go_wp2_with (at_builtin; refine wl_append64 rfl (.tmp 32) (.tmp 35) rfl W.heap.size _ T [q] rfl O3.out _ 1 1 rfl hone.out rfl hle E3.out.size ?_; intro v6 w6 hO6 hG6 hA6)
            have O6 : Hid (OwnQ W.heap.size w6 v6 ((codL l).take (k + 1))) := by show OwnQ _ _ _ _; rw [Hst.out]; exact hO6
            have E6 := hide (below_grownQ E3.out (Nat.le_refl _) O3.out hG6)
            clear hO6 hG6 hA6 O3 E3
            go_roundw
            case rel => exact ⟨k + 1, y, by omega, by go_num, by go_num, hyb, HY, O6, E6⟩
            case measure => simp [intOf]; omega
          · have d3 : ((k : Int) + 1 == 1) = false := by rw [beq_eq_false_iff_ne]; omega
            rw [if_neg hk0, hy, HX.out (by omega)] at hq
            obtain ⟨z1, hz⟩ : ∃ z, wrap64 ((y : Int) - (x : Int)) = z := ⟨_, rfl⟩
            rw [hz] at hq
            have hz2 := wrap64_64 ((y : Int) - (x : Int))
            rw [hz] at hz2
            have ez : wrap64 (IntKind.u64.wrap ((y : Int) - (x : Int))) = z1 := by rw [← hz, wrap_u64']; simp only [wrap64]; omega
            have KZ : Hid (∀ w, Calls Try.prog 28 #[.int .i64 z1] w (RetSame (.int .u64 (q : Int)) w)) := hide (fun w => by rw [← hq]; exact v_zigzag z1 w hz2.1 hz2.2)
            clear hq hz hz2 hy hT
            go_upto_region 10 with fail
            go_quiet ((go_at_call 27; exact Calls.quiet_of_same ((KD1.out _).mono fun _ _ h => ⟨h.1, h.2.symm⟩)))
            rename_i nq
            have E2 := HE.out.trans (ext_drewN wr nq)
            have O2 := HO.out.ext (ext_drewN wr nq)
            obtain ⟨w2, hw2⟩ : ∃ w2, wr.drewN nq = w2 := ⟨_, rfl⟩
            rw [hw2] at E2 O2 ⊢
            have O3 := hide (O2.alloc (.cells #[Value.int .u64 (q : Int)] 52))
            have hone := hide (one_atQ w2 q hqb _ rfl)
            have E3 := hide (Ext.trans E2 (ext_alloc w2 (.cells #[Value.int .u64 (q : Int)] 52)))
            clear hw2 E2 O2 c0 c1 HO HE
            go_wp2_with (first
              | (go_at_call 28; (with_reducible refine (KZ.out _).mono ?_); rintro e w3 ⟨rfl, rfl⟩)
              | (at_builtin; refine wl_append64 rfl (.tmp 37) (.tmp 43) rfl W.heap.size _ T [q] rfl O3.out _ 1 1 rfl hone.out rfl hle E3.out.size ?_; intro v6 w6 hO6 hG6 hA6))
            have O6 : Hid (OwnQ W.heap.size w6 v6 ((codL l).take (k + 1))) := by show OwnQ _ _ _ _; rw [Hst.out]; exact hO6
            have E6 := hide (below_grownQ E3.out (Nat.le_refl _) O3.out hG6)
            clear hO6 hG6 hA6 O3 E3
            go_roundw
            case rel => exact ⟨k + 1, y, by omega, by go_num, by go_num, hyb, HY, O6, E6⟩
            case measure => simp [intOf]; omega
        · have d2 : decide ((k : Int) + 1 < (n : Int)) = false := decide_eq_false (by omega)
          have hO := HO.out
          rw [List.take_of_length_le (by rw [HLl.out]; omega)] at hO
          obtain ⟨A1, c1, rfl, _, _, hw⟩ := hO.at_
          have KE1 := hide (KE.out A1 _ c1 wr rfl hw)
          obtain ⟨m, hm⟩ : ∃ m, (codL l).length = m := ⟨_, rfl⟩
          rw [hm] at KE1 ⊢
          clear hO hw hm HO
          go_wp2_with (go_at_call 29; (with_reducible refine (KE1.out).mono ?_); rintro e w3 ⟨v, rfl, hO, hE⟩; have O3 := hide (hO.less HE.out.size); have E3 := hide (Ext.trans HE.out hE); clear hE hO)
          go_ret2
          exact ⟨_, rfl, O3.out, E3.out⟩
theorem zag_i64 {c : Nat} (h : c < 18446744073709551616) : -9223372036854775808 ≤ zag c ∧ zag c ≤ 9223372036854775807 := by unfold zag; split <;> omega
theorem nxd_lt (i c d : Nat) : nxd i c d < 18446744073709551616 := by unfold nxd; split <;> omega
theorem p_diffOf (i c d : Nat) (w : World) (hi : i ≤ 9223372036854775807) (hc : c < 18446744073709551616) (hd : d < 18446744073709551616) (x : Nat) (hx : nxd i c d = x) :
    Calls Try.prog 49 #[.int .i64 (i : Int), .int .u64 (c : Int), .int .u64 (d : Int)] w (RetSame (.int .u64 (x : Int)) w) := by
  unfold nxd at hx
  by_cases h0 : i = 0
  · rw [if_pos h0] at hx
    have d1 : ((i : Int) == 0) = true := by rw [beq_iff_eq]; omega
    have e : IntKind.u64.wrap ((c : Int) + 1) = (x : Int) := by rw [wrap_u64']; omega
    clear hx h0
    go_enter Try.func49, Try.ntmps49
    go_wp2_with fail
    go_ret
    exact ⟨rfl, rfl⟩
  · rw [if_neg h0] at hx
    have d1 : ((i : Int) == 0) = false := by rw [beq_eq_false_iff_ne]; omega
    have hz := zag_i64 hc
    have KU := hide (fun w => p_unzigzag c w hc)
    obtain ⟨z, hzz⟩ : ∃ z, zag c = z := ⟨_, rfl⟩
    rw [hzz] at KU hx hz
    have e : IntKind.u64.wrap ((d : Int) + IntKind.u64.wrap z) = (x : Int) := by rw [wrap_u64', wrap_u64']; omega
    clear hx h0 hzz
    go_enter Try.func49, Try.ntmps49
    go_wp2_with (go_at_call 62; (with_reducible refine (KU.out _).mono ?_); rintro e w3 ⟨rfl, rfl⟩)
    go_ret
    exact ⟨rfl, rfl⟩
/-- A list of times whose elements are written one after the other. -/
def tst (acc : List Int) (m : Nat) : List Int := acc ++ List.replicate m 0
theorem tst_set (acc : List Int) (m : Nat) (x : Int) (k : Nat) (hk : acc.length = k) : (t8s (tst acc (m + 1))).toArray.setIfInBounds k (.int .i64 x) = (t8s (tst (acc ++ [x]) m)).toArray := by
  subst hk
  unfold tst
  rw [List.replicate_succ]
  simp [t8s]
theorem tst_get (acc : List Int) (m k : Nat) (hk : acc.length = k) : (t8s (tst acc (m + 1))).toArray[k]? = some (.int .i64 0) := by
  subst hk
  unfold tst
  rw [List.replicate_succ]
  simp [t8s]
theorem tst_old (acc : List Int) (m k : Nat) (hk : k < acc.length) : (t8s (tst acc m)).toArray[k]? = some (.int .i64 (acc.getD k 0)) := by
  unfold tst
  simp [t8s, List.getElem?_append_left, hk, List.getD_eq_getElem?_getD]
theorem idxTB (g N cap j : Nat) (h : j < N) (w : World) : (Instr.indexAt 22 (.slice (some ⟨g, 0, none⟩) N cap) (.int .i64 (j : Int))).run Try.prog w = .ok (.pointer (some ⟨g, j, none⟩)) w := by
  have := idxT g 0 N cap j h w
  rw [Nat.zero_add] at this
  exact this
/-- A list of times and whether there is one. -/
def LsPost (o : Option (List Int)) (W : World) (e : Ending) (w' : World) : Prop := ∃ v, e = .returned (.tuple #[v, .bool o.isSome]) ∧ OwnT W.heap.size w' v (o.getD []) ∧ Ext W w'
set_option maxHeartbeats 3200000 in
set_option maxRecDepth 100000 in
theorem p_listOf (f : Int) (A : Option Addr) (n c : Nat) (cs : List Nat) (W : World) (hf : I64 f) (hl : WordsAt W A cs) (hn : cs.length = n) (hn2 : n ≤ 65536) (o : Option (List Int)) (ho : tmL f cs = o) :
    Calls Try.prog 32 #[.int .i64 f, .slice A n c] W (LsPost o W) := by
  obtain ⟨N, hN⟩ : ∃ N, n + 1 = N := ⟨_, rfl⟩
  have eN : (n : Int) + 1 = (N : Int) := by omega
  have hmk := run_mkT N N (Nat.le_refl _) (by omega)
  have HL := hide hl
  have Hn := hide hn
  have Hq := hide hl.1
  have HN := hide hN
  have HO0 : Hid (tml (cs.drop 0) 0 f 0 [f] = o) := hide (by rw [List.drop_zero]; exact ho)
  have KF := hide p_diffOf
  have KD : Hid (∀ t, I64 t → ∀ w, Calls Try.prog 38 #[.int .i64 9223372036854775807, .int .i64 t] w (RetSame (.int .u64 (((9223372036854775807 : Int) - t).natAbs : Nat)) w)) := hide (fun t ht w => p_dist _ _ w ⟨by omega, by omega⟩ ht)
  have B1 := Blk.new W 2 (t8s (tst [] (n + 1))).toArray
  have E1 := ext_alloc W (.cells (t8s (tst [] (n + 1))).toArray 2)
  rw [show List.replicate N 0 = tst [] (n + 1) by rw [← hN]; rfl] at hmk
  obtain ⟨w1, hw1⟩ : ∃ w1, W.alloc (.cells (t8s (tst [] (n + 1))).toArray 2) = w1 := ⟨_, rfl⟩
  rw [hw1] at B1 E1
  obtain ⟨g, hg⟩ : ∃ g, W.heap.size = g := ⟨_, rfl⟩
  rw [hg] at B1
  have hgw : W.heap.size ≤ g := by omega
  have hix := fun w => idxTB g N N 0 (by omega) w
  have c0 : w1.cell? ⟨g, 0, none⟩ = some (.int .i64 0) := by rw [B1.cell]; exact tst_get [] n 0 rfl
  have f0 := B1.frozen 0
  have B2 := hide (show Blk (w1.setCell ⟨g, 0, none⟩ (.int .i64 f)) g 2 (t8s (tst [f] n)).toArray by
    have := B1.set_ 0 (.int .i64 f)
    rw [tst_set [] n f 0 rfl] at this
    exact this)
  have E2 := hide (show Ext W (w1.setCell ⟨g, 0, none⟩ (.int .i64 f)) from Below.setCell E1 (p := ⟨g, 0, none⟩) hgw _)
  have Hw1 := hide hw1
  have Hg := hide hg
  have Hf := hide (IsT.one hf)
  clear hl hn ho hN hw1 hg B1 E1 hf
  go_enter Try.func32, Try.ntmps32
  go_upto_region 2 with fail
  rw [Hw1.out, Hg.out]
  clear hmk
  go_wp2_with fail
  go_loopw [7, 19] (fun dv iv wr => ∃ (k m d : Nat) (t : Int) (acc : List Int), k + m = n ∧ iv = .int .i64 (k : Int) ∧ dv = .int .u64 (d : Int) ∧ d < 18446744073709551616 ∧ Hid (acc.length = k + 1) ∧ Hid (IsT acc) ∧ Hid (acc.getD k 0 = t) ∧ Hid (tml (cs.drop k) k t d acc = o) ∧ Hid (Blk wr g 2 (t8s (tst acc m)).toArray) ∧ Hid (Ext W wr)) (fun _ iv _ => n - (intOf iv).toNat)
  case atStart => exact ⟨0, n, 0, f, [f], by omega, rfl, rfl, by omega, hide rfl, Hf, hide rfl, HO0, B2, E2⟩
  case round =>
    clear B2 E2 HO0 c0 f0 hix Hf
    obtain ⟨k, m, d, t, acc, hk, rfl, rfl, hd, HA, HI, HT, HR, HB, HE⟩ := hrel
    by_cases hlt : k < n
    · obtain ⟨m, rfl⟩ : ∃ m', m = m' + 1 := ⟨m - 1, by omega⟩
      have d0 : decide ((k : Int) < (n : Int)) = true := decide_eq_true (by omega)
      have hkl : k < cs.length := by rw [Hn.out]; exact hlt
      obtain ⟨b, off, rfl, hb1, hc1⟩ := (HL.out.ext HE.out).2.2 (by omega)
      have dc := hc1 k hkl
      have hx := Hq.out.get k
      have hR := HR.out
      rw [List.drop_eq_getElem_cons hkl, ← getD_lt hkl] at hR
      obtain ⟨x, hxx⟩ : ∃ x, cs.getD k 0 = x := ⟨_, rfl⟩
      rw [hxx] at dc hx hR
      rw [tml] at hR
      obtain ⟨e, he⟩ : ∃ e, nxd k x d = e := ⟨_, rfl⟩
      have KF1 := hide (fun w => KF.out k x d w (by omega) hx hd e he)
      have heb : e < 18446744073709551616 := by rw [← he]; exact nxd_lt _ _ _
      rw [he] at hR
      have ht : I64 t := by rw [← HT.out]; exact HI.out.get k
      have KD1 := hide (KD.out t ht)
      obtain ⟨D, hD⟩ : ∃ D : Nat, ((9223372036854775807 : Int) - t).natAbs = D := ⟨_, rfl⟩
      rw [hD] at KD1
      have hDt : (9223372036854775807 : Int) - t = (D : Int) := by have := ht.2; omega
      have ct : wr.cell? ⟨g, k, none⟩ = some (.int .i64 t) := by
        rw [HB.out.cell, tst_old acc _ k (by rw [HA.out]; omega), HT.out]
      have hNn := HN.out
      have ixa := fun w => idx64 b off n c k hlt w
      have ixb := fun w => idxTB g N N k (by omega) w
      clear hxx he hkl hb1 hc1 HR hD
      by_cases he0 : e = 0
      · rw [if_pos (Or.inl he0)] at hR
        have d3 : ((e : Int) == 0) = true := by rw [beq_iff_eq]; omega
        have HR := hide hR
        clear hR he0 hDt hNn
        go_wp2_with (go_at_call 49; (with_reducible refine (KF1.out _).mono ?_); rintro e w3 ⟨rfl, rfl⟩)
        go_ret2
        rw [← HR.out]
        exact ⟨_, rfl, OwnT.nil_ _ _, HE.out⟩
      · have d3 : ((e : Int) == 0) = false := by rw [beq_eq_false_iff_ne]; omega
        by_cases he1 : D < e
        · rw [if_pos (Or.inr (by omega))] at hR
          have d4 : decide ((D : Int) < (e : Int)) = true := decide_eq_true (by omega)
          have d5 : decide (D < e) = true := decide_eq_true he1
          have HR := hide hR
          clear hR he0 he1 hDt hNn
          go_wp2_with (first
            | (go_at_call 49; (with_reducible refine (KF1.out _).mono ?_); rintro e w3 ⟨rfl, rfl⟩)
            | (go_at_call 38; (with_reducible refine (KD1.out _).mono ?_); rintro e w3 ⟨rfl, rfl⟩))
          go_ret2
          rw [← HR.out]
          exact ⟨_, rfl, OwnT.nil_ _ _, HE.out⟩
        · rw [if_neg (by omega)] at hR
          have d4 : decide ((D : Int) < (e : Int)) = false := decide_eq_false (by omega)
          have d5 : decide (D < e) = false := decide_eq_false he1
          have hy : t + (e : Int) ≤ 9223372036854775807 := by omega
          have KA := hide (fun w => p_apply t e w ht hy heb)
          obtain ⟨y, hyy⟩ : ∃ y, t + (e : Int) = y := ⟨_, rfl⟩
          rw [hyy] at KA hR hy
          have iy : I64 y := ⟨by have := ht.1; omega, hy⟩
          have HR := hide hR
          have ixc : ∀ w, (Instr.indexAt 22 (.slice (some ⟨g, 0, none⟩) N N) (.int .i64 ((k : Int) + 1))).run Try.prog w = .ok (.pointer (some ⟨g, k + 1, none⟩)) w := fun w => idxTB g N N (k + 1) (by omega) w
          have cn : wr.cell? ⟨g, k + 1, none⟩ = some (.int .i64 0) := by rw [HB.out.cell]; exact tst_get acc m (k + 1) HA.out
          have fn := HB.out.frozen (k + 1)
          have B2 := hide (show Blk (wr.setCell ⟨g, k + 1, none⟩ (.int .i64 y)) g 2 (t8s (tst (acc ++ [y]) m)).toArray by
            have := HB.out.set_ (k + 1) (.int .i64 y)
            rw [tst_set acc m y (k + 1) HA.out] at this
            exact this)
          have E2 := hide (show Ext W (wr.setCell ⟨g, k + 1, none⟩ (.int .i64 y)) from Below.setCell HE.out (p := ⟨g, k + 1, none⟩) hgw _)
          have HA2 := hide (show (acc ++ [y]).length = k + 1 + 1 by rw [List.length_append, HA.out]; rfl)
          have HI2 := hide (HI.out.app (IsT.one iy))
          have HT2 := hide (show (acc ++ [y]).getD (k + 1) 0 = y by have := getD_end acc y; rwa [HA.out] at this)
          clear hR he0 he1 hDt hyy hy hNn HB HE ht HA HI HT
          go_wp2_with (first
            | (go_at_call 49; (with_reducible refine (KF1.out _).mono ?_); rintro e w3 ⟨rfl, rfl⟩)
            | (go_at_call 38; (with_reducible refine (KD1.out _).mono ?_); rintro e w3 ⟨rfl, rfl⟩)
            | (go_at_call 50; (with_reducible refine (KA.out _).mono ?_); rintro e w3 ⟨rfl, rfl⟩))
          go_roundw
          case rel => exact ⟨k + 1, m, e, y, acc ++ [y], by omega, by go_num, by go_num, heb, HA2, HI2, HT2, HR, B2, E2⟩
          case measure => simp [intOf]; omega
    · obtain rfl : m = 0 := by omega
      obtain rfl : k = n := by omega
      have d0 : decide ((k : Int) < (k : Int)) = false := decide_eq_false (by omega)
      have hR := HR.out
      rw [List.drop_of_length_le (by rw [Hn.out]; omega), tml] at hR
      have hB := HB.out
      rw [show tst acc 0 = acc by simp [tst]] at hB
      have hB := hide hB
      have HR := hide hR
      have hA := hide (HA.out.trans HN.out)
      have hN2 := hide (show N ≤ 1048576 by have := HN.out; omega)
      clear hR HB HA
      go_wp2_with fail
      go_ret2
      rw [← HR.out]
      exact ⟨_, rfl, own_t hgw hB.out hA.out hN2.out HI.out, HE.out⟩
/-- A list of times, an index and an error. -/
def TmRet (r : List Int × Int × Int) (W : World) (e : Ending) (w' : World) : Prop := ∃ v, e = .returned (.tuple #[v, .int .i64 r.2.1, .int .i64 r.2.2]) ∧ OwnT W.heap.size w' v r.1 ∧ Ext W w'
theorem TmRet.parts {r : List Int × Int × Int} {W : World} {e : Ending} {w' : World} (h : TmRet r W e w') : ∃ A cap, e = .returned (.tuple #[.slice A r.1.length cap, .int .i64 r.2.1, .int .i64 r.2.2]) ∧ r.1.length ≤ cap ∧ cap ≤ 9223372036854775807 ∧ OwnT W.heap.size w' (.slice A r.1.length cap) r.1 ∧ TimesAt w' A r.1 ∧ Ext W w' := by
  obtain ⟨v, rfl, hO, hE⟩ := h
  obtain ⟨A, cap, rfl, h1, h2, h3⟩ := hO.at_
  exact ⟨A, cap, rfl, h1, h2, hO, h3, hE⟩
set_option maxRecDepth 100000 in
set_option maxHeartbeats 3200000 in
theorem p_deT_out (A : Option Addr) (c cap : Nat) (at_ f n : Int) (W : World) (hcap2 : c ≤ 4611686018427387904) (hat : I64 at_) (hn : I64 n) (hr : at_ < 0 ∨ (c : Int) < at_ ∨ n < 1 ∨ 65536 < n) :
    Calls Try.prog 21 #[.slice A c cap, .int .i64 at_, .int .i64 f, .int .i64 n] W (TmRet ([], 0, 2) W) := by
  by_cases h1 : at_ < 0
  · have d1 : decide (at_ < 0) = true := decide_eq_true h1
    clear hr h1
    go_enter Try.func21, Try.ntmps21
    go_wp2_with fail
    go_ret3
    exact ⟨_, rfl, OwnT.nil_ _ _, Ext.refl _⟩
  · have d1 : decide (at_ < 0) = false := decide_eq_false h1
    by_cases h2 : (c : Int) < at_
    · have d2 : decide ((c : Int) < at_) = true := decide_eq_true h2
      clear hr h1 h2
      go_enter Try.func21, Try.ntmps21
      go_wp2_with fail
      go_ret3
      exact ⟨_, rfl, OwnT.nil_ _ _, Ext.refl _⟩
    · have d2 : decide ((c : Int) < at_) = false := decide_eq_false h2
      by_cases h3 : n < 1
      · have d3 : decide (n < 1) = true := decide_eq_true h3
        clear hr h1 h2 h3
        go_enter Try.func21, Try.ntmps21
        go_wp2_with fail
        go_ret3
        exact ⟨_, rfl, OwnT.nil_ _ _, Ext.refl _⟩
      · have d3 : decide (n < 1) = false := decide_eq_false h3
        have d4 : decide ((65536 : Int) < n) = true := decide_eq_true (by omega)
        clear hr h1 h2 h3
        go_enter Try.func21, Try.ntmps21
        go_wp2_with fail
        go_ret3
        exact ⟨_, rfl, OwnT.nil_ _ _, Ext.refl _⟩
set_option maxRecDepth 100000 in
set_option maxHeartbeats 3200000 in
theorem p_deT (A : Option Addr) (c cap : Nat) (b : List Nat) (at_ f n : Int) (W : World) (hb : BytesAt W A b) (hc : b.length = c) (hcap : c ≤ cap) (hcap2 : c ≤ 4611686018427387904) (hat : I64 at_) (hf : I64 f) (hn : I64 n) (R : List Int × Int × Int) (hR : deT b at_ f n = R) :
    Calls Try.prog 21 #[.slice A c cap, .int .i64 at_, .int .i64 f, .int .i64 n] W (TmRet R W) := by
  by_cases hr : at_ < 0 ∨ (c : Int) < at_ ∨ n < 1 ∨ 65536 < n
  · have e : deT b at_ f n = ([], 0, 2) := if_pos (by omega)
    rw [← hR, e]
    exact p_deT_out A c cap at_ f n W hcap2 hat hn hr
  · have d1 : decide (at_ < 0) = false := decide_eq_false (by omega)
    have d2 : decide ((c : Int) < at_) = false := decide_eq_false (by omega)
    have d3 : decide (n < 1) = false := decide_eq_false (by omega)
    have d4 : decide ((65536 : Int) < n) = false := decide_eq_false (by omega)
    rw [deT, if_neg (by omega)] at hR
    obtain ⟨k, hk⟩ : ∃ k, n - 1 = k := ⟨_, rfl⟩
    have ik : I64 k := ⟨by omega, by omega⟩
    have hn1 : 1 ≤ n := by omega
    have hn2 : n ≤ 65536 := by omega
    rw [hk] at hR
    obtain ⟨L, nx, e1, hD⟩ : ∃ L nx e1, deN b at_ k = (L, nx, e1) := ⟨_, _, _, rfl⟩
    rw [hD] at hR
    unfold fin at hR
    simp only at hR
    obtain ⟨m, hm⟩ : ∃ m, L.length = m := ⟨_, rfl⟩
    have KD : Hid (Calls Try.prog 31 #[.slice A c cap, .int .i64 at_, .int .i64 k] W fun e w' => ∃ A3 c3, e = .returned (.tuple #[.slice A3 m c3, .int .i64 nx, .int .i64 e1]) ∧ WordsAt w' A3 L ∧ Ext W w') := hide ((p_deN A c cap b at_ k W hb hc hcap hcap2 hat ik _ hD).mono fun e w' h => by
      obtain ⟨A3, c3, rfl, _, _, _, hw, hE⟩ := h.parts
      exact ⟨A3, c3, by rw [hm], hw, hE⟩)
    by_cases he : e1 = 0
    · subst he
      obtain ⟨_, h1, h2, _⟩ := deN_canon hD
      have hm2 : m ≤ 65536 := by omega
      have KL : Hid (∀ A3 c3 w o, WordsAt w A3 L → tmL f L = o → Calls Try.prog 32 #[.int .i64 f, .slice A3 m c3] w (LsPost o w)) := hide (fun A3 c3 w o h ho => p_listOf f A3 m c3 L w hf h hm hm2 o ho)
      rw [if_pos rfl] at hR
      cases ho : tmL f L with
      | none =>
        rw [ho] at hR
        have HR := hide hR
        have KL := hide (fun A3 c3 w h => KL.out A3 c3 w none h ho)
        clear hb hc hr hR hD hm h1 h2 ho
        go_enter Try.func21, Try.ntmps21
        go_wp2_with (first
          | (go_at_call 31; (with_reducible refine (KD.out).mono ?_); rintro e w1 ⟨A3, c3, rfl, hw, hE⟩; have E1 := hide hE; have kl := hide (KL.out A3 c3 w1 hw); clear hE hw)
          | (go_at_call 32; (with_reducible refine (kl.out).mono ?_); rintro e w2 ⟨v, rfl, hO, hE⟩; have E2 := hide (Ext.trans E1.out hE); clear hE hO))
        go_ret3
        rw [← HR.out]
        exact ⟨_, rfl, OwnT.nil_ _ _, E2.out⟩
      | some l =>
        rw [ho] at hR
        have HR := hide hR
        have KL : Hid (∀ A3 c3 w, WordsAt w A3 L → Calls Try.prog 32 #[.int .i64 f, .slice A3 m c3] w fun e w' => ∃ v, e = .returned (.tuple #[v, .bool true]) ∧ OwnT w.heap.size w' v l ∧ Ext w w') := hide (fun A3 c3 w h => KL.out A3 c3 w (some l) h ho)
        clear hb hc hr hR hD hm h1 h2 ho
        go_enter Try.func21, Try.ntmps21
        go_wp2_with (first
          | (go_at_call 31; (with_reducible refine (KD.out).mono ?_); rintro e w1 ⟨A3, c3, rfl, hw, hE⟩; have E1 := hide hE; have kl := hide (KL.out A3 c3 w1 hw); clear hE hw)
          | (go_at_call 32; (with_reducible refine (kl.out).mono ?_); rintro e w2 ⟨v, rfl, hO, hE⟩; have O2 := hide (hO.less E1.out.size); have E2 := hide (Ext.trans E1.out hE); clear hE hO))
        go_ret3
        rw [← HR.out]
        exact ⟨_, rfl, O2.out, E2.out⟩
    · rw [if_neg he] at hR
      have HR := hide hR
      have de : (e1 != 0) = true := by rw [bne_iff_ne]; exact he
      clear hb hc hr hR hD hm he
      go_enter Try.func21, Try.ntmps21
      go_wp2_with (go_at_call 31; (with_reducible refine (KD.out).mono ?_); rintro e w1 ⟨A3, c3, rfl, hw, hE⟩; have E1 := hide hE; clear hE hw)
      go_ret3
      rw [← HR.out]
      exact ⟨_, rfl, OwnT.nil_ _ _, E1.out⟩
set_option maxRecDepth 100000 in
set_option maxHeartbeats 3200000 in
theorem r_deT_out (A : Option Addr) (c cap : Nat) (at_ f n : Int) (W : World) (hcap2 : c ≤ 4611686018427387904) (hat : I64 at_) (hn : I64 n) (hr : at_ < 0 ∨ (c : Int) < at_ ∨ n < 1 ∨ 65536 < n) :
    Calls Try.prog 30 #[.slice A c cap, .int .i64 at_, .int .i64 f, .int .i64 n] W (TmRet ([], 0, 2) W) := by
  by_cases h1 : at_ < 0
  · have d1 : decide (at_ < 0) = true := decide_eq_true h1
    clear hr h1
    go_enter Try.func30, Try.ntmps30
    go_wp2_with fail
    go_ret3
    exact ⟨_, rfl, OwnT.nil_ _ _, Ext.refl _⟩
  · have d1 : decide (at_ < 0) = false := decide_eq_false h1
    by_cases h2 : (c : Int) < at_
    · have d2 : decide ((c : Int) < at_) = true := decide_eq_true h2
      clear hr h1 h2
      go_enter Try.func30, Try.ntmps30
      go_wp2_with fail
      go_ret3
      exact ⟨_, rfl, OwnT.nil_ _ _, Ext.refl _⟩
    · have d2 : decide ((c : Int) < at_) = false := decide_eq_false h2
      by_cases h3 : n < 1
      · have d3 : decide (n < 1) = true := decide_eq_true h3
        clear hr h1 h2 h3
        go_enter Try.func30, Try.ntmps30
        go_wp2_with fail
        go_ret3
        exact ⟨_, rfl, OwnT.nil_ _ _, Ext.refl _⟩
      · have d3 : decide (n < 1) = false := decide_eq_false h3
        have d4 : decide ((65536 : Int) < n) = true := decide_eq_true (by omega)
        clear hr h1 h2 h3
        go_enter Try.func30, Try.ntmps30
        go_wp2_with fail
        go_ret3
        exact ⟨_, rfl, OwnT.nil_ _ _, Ext.refl _⟩
set_option maxRecDepth 100000 in
set_option maxHeartbeats 3200000 in
theorem r_deT (A : Option Addr) (c cap : Nat) (b : List Nat) (at_ f n : Int) (W : World) (hb : BytesAt W A b) (hc : b.length = c) (hcap : c ≤ cap) (hcap2 : c ≤ 4611686018427387904) (hat : I64 at_) (hf : I64 f) (hn : I64 n) (R : List Int × Int × Int) (hR : deT b at_ f n = R) :
    Calls Try.prog 30 #[.slice A c cap, .int .i64 at_, .int .i64 f, .int .i64 n] W (TmRet R W) := by
  by_cases hr : at_ < 0 ∨ (c : Int) < at_ ∨ n < 1 ∨ 65536 < n
  · have e : deT b at_ f n = ([], 0, 2) := if_pos (by omega)
    rw [← hR, e]
    exact r_deT_out A c cap at_ f n W hcap2 hat hn hr
  · have d1 : decide (at_ < 0) = false := decide_eq_false (by omega)
    have d2 : decide ((c : Int) < at_) = false := decide_eq_false (by omega)
    have d3 : decide (n < 1) = false := decide_eq_false (by omega)
    have d4 : decide ((65536 : Int) < n) = false := decide_eq_false (by omega)
    rw [deT, if_neg (by omega)] at hR
    obtain ⟨k, hk⟩ : ∃ k, n - 1 = k := ⟨_, rfl⟩
    have ik : I64 k := ⟨by omega, by omega⟩
    have hn1 : 1 ≤ n := by omega
    have hn2 : n ≤ 65536 := by omega
    rw [hk] at hR
    obtain ⟨L, nx, e1, hD⟩ : ∃ L nx e1, deN b at_ k = (L, nx, e1) := ⟨_, _, _, rfl⟩
    rw [hD] at hR
    unfold fin at hR
    simp only at hR
    obtain ⟨m, hm⟩ : ∃ m, L.length = m := ⟨_, rfl⟩
    have KD : Hid (Calls Try.prog 44 #[.slice A c cap, .int .i64 at_, .int .i64 k] W fun e w' => ∃ A3 c3, e = .returned (.tuple #[.slice A3 m c3, .int .i64 nx, .int .i64 e1]) ∧ WordsAt w' A3 L ∧ Ext W w') := hide ((r_deN A c cap b at_ k W hb hc hcap hcap2 hat ik _ hD).mono fun e w' h => by
      obtain ⟨A3, c3, rfl, _, _, _, hw, hE⟩ := h.parts
      exact ⟨A3, c3, by rw [hm], hw, hE⟩)
    by_cases he : e1 = 0
    · subst he
      obtain ⟨_, h1, h2, _⟩ := deN_canon hD
      have hm2 : m ≤ 65536 := by omega
      rw [if_pos rfl] at hR
      obtain ⟨o, ho⟩ : ∃ o, tmL f L = o := ⟨_, rfl⟩
      rw [ho] at hR
      have HO0 : Hid (tml (L.drop 0) 0 f 0 [f] = o) := hide (by rw [List.drop_zero]; exact ho)
      have Hn := hide hm
      have HR := hide hR
      have KU := hide (fun (x : Nat) (h : x < 18446744073709551616) w => v_unzigzag x w h)
      have KD2 : Hid (∀ t, I64 t → ∀ w, Calls Try.prog 27 #[.int .i64 9223372036854775807, .int .i64 t] w (RetSame (.int .u64 (((9223372036854775807 : Int) - t).natAbs : Nat)) w)) := hide (fun t ht w => r_dist _ _ w ⟨by omega, by omega⟩ ht)
      have Hf := hide (IsT.one hf)
      clear hb hc hr hR hD h1 h2 ho hf hm
      go_enter Try.func30, Try.ntmps30
      go_upto_region 7 with (go_at_call 44; (with_reducible refine (KD.out).mono ?_); rintro e w1 ⟨A3, c3, rfl, hw, hE⟩; have HW1 := hide hw; have E1 := hide hE; clear hE hw)
      have O2 := hide (own_ofT (B := w1.heap.size) (w := w1.alloc (.cells #[.int .i64 f] 2)) (g := w1.heap.size) (n := 1) (cap := 1) (l := [f]) (m := []) (Nat.le_refl _) (heap_alloc_new w1 _) rfl rfl (by omega) Hf.out)
      have E2 := hide (ext_alloc w1 (.cells #[.int .i64 f] 2))
      obtain ⟨w2, hw2⟩ : ∃ w2, w1.alloc (.cells #[.int .i64 f] 2) = w2 := ⟨_, rfl⟩
      rw [hw2] at O2 E2 ⊢
      have HQ := hide HW1.out.1
      clear hw2 KD Hf
      go_wp2_with fail
      go_loopw [14, 15, 16] (fun lv dv iv wr => ∃ (k d : Nat) (t : Int) (acc : List Int), k ≤ m ∧ iv = .int .i64 (k : Int) ∧ dv = .int .u64 (d : Int) ∧ d < 18446744073709551616 ∧ Hid (acc.length = k + 1) ∧ Hid (acc.getD k 0 = t) ∧ Hid (tml (L.drop k) k t d acc = o) ∧ Hid (OwnT w1.heap.size wr lv acc) ∧ Hid (Ext w1 wr)) (fun _ _ iv _ => m - (intOf iv).toNat)
      case atStart => exact ⟨0, 0, f, [f], by omega, rfl, rfl, by omega, hide rfl, hide rfl, HO0, O2, E2⟩
      case round =>
        clear O2 E2 HO0
        obtain ⟨k, d, t, acc, hk, rfl, rfl, hd, HA, HT, HR2, HO, HE⟩ := hrel
        by_cases hlt : k < m
        · have d8 : decide ((k : Int) < (m : Int)) = true := decide_eq_true (by omega)
          have hkl : k < L.length := by rw [Hn.out]; exact hlt
          obtain ⟨b, off, rfl, hb1, hc1⟩ := (HW1.out.ext HE.out).2.2 (by omega)
          have dc := hc1 k hkl
          have hx := HQ.out.get k
          have hR := HR2.out
          rw [List.drop_eq_getElem_cons hkl, ← getD_lt hkl] at hR
          obtain ⟨x, hxx⟩ : ∃ x, L.getD k 0 = x := ⟨_, rfl⟩
          rw [hxx] at dc hx hR
          rw [tml] at hR
          obtain ⟨e, he⟩ : ∃ e, nxd k x d = e := ⟨_, rfl⟩
          have heb : e < 18446744073709551616 := by rw [← he]; exact nxd_lt _ _ _
          rw [he] at hR
          obtain ⟨Al, cl, rfl, hlc, hlc2, hla⟩ := HO.out.at_
          have ht : I64 t := by rw [← HT.out]; exact hla.1.get k
          have KD1 := hide (KD2.out t ht)
          obtain ⟨D, hD⟩ : ∃ D : Nat, ((9223372036854775807 : Int) - t).natAbs = D := ⟨_, rfl⟩
          rw [hD] at KD1
          have hDt : (9223372036854775807 : Int) - t = (D : Int) := by have := ht.2; omega
          obtain ⟨bl, ol, rfl, hbl, hcl⟩ := hla.2.2 (by rw [HA.out]; omega)
          have ct := hcl k (by rw [HA.out]; omega)
          rw [HT.out] at ct
          rw [HA.out] at HO ⊢
          have ixa := fun w => idx64 b off m c3 k hlt w
          have ixb := fun w => idxT bl ol (k + 1) cl k (by omega) w
          clear hxx hkl hb1 hc1 HR2 hD hla hcl hbl hlc hlc2
          unfold nxd at he
          by_cases hk0 : k = 0
          · rw [if_pos hk0] at he
            have d9 : ((k : Int) == 0) = true := by rw [beq_iff_eq]; omega
            have e9 : IntKind.u64.wrap ((x : Int) + 1) = (e : Int) := by rw [wrap_u64']; omega
            have ixc : ∀ w, (Instr.indexAt 57 (.slice (some ⟨b, off, none⟩) m c3) (.int .i64 0)).run Try.prog w = .ok (.pointer (some ⟨b, off + k, none⟩)) w := fun w => by rw [hk0]; exact idx64 b off m c3 0 (by omega) w
            clear he hk0
            by_cases he0 : e = 0
            · rw [if_pos (Or.inl he0)] at hR
              have d5 : ((e : Int) == 0) = true := by rw [beq_iff_eq]; omega
              subst hR
              have HR := hide HR.out
              clear he0 hDt
              go_wp2_with (fail)
              go_ret3
              rw [← HR.out]
              exact ⟨_, rfl, OwnT.nil_ _ _, Ext.trans E1.out HE.out⟩
            · have d5 : ((e : Int) == 0) = false := by rw [beq_eq_false_iff_ne]; omega
              by_cases he1 : D < e
              · rw [if_pos (Or.inr (by omega))] at hR
                have d6 : decide ((D : Int) < (e : Int)) = true := decide_eq_true (by omega)
                have d7 : decide (D < e) = true := decide_eq_true he1
                subst hR
                have HR := hide HR.out
                clear he0 he1 hDt
                go_wp2_with (first | (go_at_call 27; (with_reducible refine (KD1.out _).mono ?_); rintro e w3 ⟨rfl, rfl⟩))
                go_ret3
                rw [← HR.out]
                exact ⟨_, rfl, OwnT.nil_ _ _, Ext.trans E1.out HE.out⟩
              · rw [if_neg (by omega)] at hR
                have d6 : decide ((D : Int) < (e : Int)) = false := decide_eq_false (by omega)
                have d7 : decide (D < e) = false := decide_eq_false he1
                have hy : t + (e : Int) ≤ 9223372036854775807 := by omega
                have KA := hide (fun w => r_apply t e w ht hy heb)
                obtain ⟨y, hyy⟩ : ∃ y, t + (e : Int) = y := ⟨_, rfl⟩
                rw [hyy] at KA hR hy
                have iy : I64 y := ⟨by have := ht.1; omega, hy⟩
                have HR2 := hide hR
                have HT2 := hide (show (acc ++ [y]).getD (k + 1) 0 = y by have := getD_end acc y; rwa [HA.out] at this)
                have HA2 := hide (show (acc ++ [y]).length = k + 1 + 1 by rw [List.length_append, HA.out]; rfl)
                have hle : acc.length + [y].length ≤ 17592186044416 := by rw [HA.out]; simp; omega
                have O3 := hide (HO.out.alloc (.cells #[Value.int .i64 y] 2))
                have hone := hide (one_atT wr y iy _ rfl)
                have E3 := hide (Ext.trans HE.out (ext_alloc wr (.cells #[Value.int .i64 y] 2)))
                clear hR he0 he1 hDt hyy hy ht HO HA HT
                go_wp2_with (first | (go_at_call 27; (with_reducible refine (KD1.out _).mono ?_); rintro e w3 ⟨rfl, rfl⟩) | (go_at_call 46; (with_reducible refine (KA.out _).mono ?_); rintro e w3 ⟨rfl, rfl⟩) | (at_builtin; refine wl_appendT rfl (.tmp 80) (.tmp 84) rfl w1.heap.size _ acc [y] rfl O3.out _ 1 1 rfl hone.out rfl hle E3.out.size ?_; intro v6 w6 hO6 hG6 hA6))
                have O6 := hide hO6
                have E6 := hide (below_grownT E3.out (Nat.le_refl _) O3.out hG6)
                clear hO6 hG6 hA6 O3 E3
                go_roundw
                case rel => exact ⟨k + 1, e, y, acc ++ [y], by omega, by go_num, by go_num, heb, HA2, HT2, HR2, O6, E6⟩
                case measure => simp [intOf]; omega
          · rw [if_neg hk0] at he
            have d9 : ((k : Int) == 0) = false := by rw [beq_eq_false_iff_ne]; omega
            have hz := zag_i64 hx
            have KU1 := hide (fun w => KU.out x hx w)
            obtain ⟨z, hzz⟩ : ∃ z, zag x = z := ⟨_, rfl⟩
            rw [hzz] at KU1 he hz
            have e9 : IntKind.u64.wrap ((d : Int) + IntKind.u64.wrap z) = (e : Int) := by rw [wrap_u64', wrap_u64']; omega
            clear he hk0 hzz
            by_cases he0 : e = 0
            · rw [if_pos (Or.inl he0)] at hR
              have d5 : ((e : Int) == 0) = true := by rw [beq_iff_eq]; omega
              subst hR
              have HR := hide HR.out
              clear he0 hDt
              go_wp2_with (first | (go_at_call 45; (with_reducible refine (KU1.out _).mono ?_); rintro e w3 ⟨rfl, rfl⟩))
              go_ret3
              rw [← HR.out]
              exact ⟨_, rfl, OwnT.nil_ _ _, Ext.trans E1.out HE.out⟩
            · have d5 : ((e : Int) == 0) = false := by rw [beq_eq_false_iff_ne]; omega
              by_cases he1 : D < e
              · rw [if_pos (Or.inr (by omega))] at hR
                have d6 : decide ((D : Int) < (e : Int)) = true := decide_eq_true (by omega)
                have d7 : decide (D < e) = true := decide_eq_true he1
                subst hR
                have HR := hide HR.out
                clear he0 he1 hDt
                go_wp2_with (first | (go_at_call 45; (with_reducible refine (KU1.out _).mono ?_); rintro e w3 ⟨rfl, rfl⟩) | (go_at_call 27; (with_reducible refine (KD1.out _).mono ?_); rintro e w3 ⟨rfl, rfl⟩))
                go_ret3
                rw [← HR.out]
                exact ⟨_, rfl, OwnT.nil_ _ _, Ext.trans E1.out HE.out⟩
              · rw [if_neg (by omega)] at hR
                have d6 : decide ((D : Int) < (e : Int)) = false := decide_eq_false (by omega)
                have d7 : decide (D < e) = false := decide_eq_false he1
                have hy : t + (e : Int) ≤ 9223372036854775807 := by omega
                have KA := hide (fun w => r_apply t e w ht hy heb)
                obtain ⟨y, hyy⟩ : ∃ y, t + (e : Int) = y := ⟨_, rfl⟩
                rw [hyy] at KA hR hy
                have iy : I64 y := ⟨by have := ht.1; omega, hy⟩
                have HR2 := hide hR
                have HT2 := hide (show (acc ++ [y]).getD (k + 1) 0 = y by have := getD_end acc y; rwa [HA.out] at this)
                have HA2 := hide (show (acc ++ [y]).length = k + 1 + 1 by rw [List.length_append, HA.out]; rfl)
                have hle : acc.length + [y].length ≤ 17592186044416 := by rw [HA.out]; simp; omega
                have O3 := hide (HO.out.alloc (.cells #[Value.int .i64 y] 2))
                have hone := hide (one_atT wr y iy _ rfl)
                have E3 := hide (Ext.trans HE.out (ext_alloc wr (.cells #[Value.int .i64 y] 2)))
                clear hR he0 he1 hDt hyy hy ht HO HA HT
                go_wp2_with (first | (go_at_call 45; (with_reducible refine (KU1.out _).mono ?_); rintro e w3 ⟨rfl, rfl⟩) | (go_at_call 27; (with_reducible refine (KD1.out _).mono ?_); rintro e w3 ⟨rfl, rfl⟩) | (go_at_call 46; (with_reducible refine (KA.out _).mono ?_); rintro e w3 ⟨rfl, rfl⟩) | (at_builtin; refine wl_appendT rfl (.tmp 80) (.tmp 84) rfl w1.heap.size _ acc [y] rfl O3.out _ 1 1 rfl hone.out rfl hle E3.out.size ?_; intro v6 w6 hO6 hG6 hA6))
                have O6 := hide hO6
                have E6 := hide (below_grownT E3.out (Nat.le_refl _) O3.out hG6)
                clear hO6 hG6 hA6 O3 E3
                go_roundw
                case rel => exact ⟨k + 1, e, y, acc ++ [y], by omega, by go_num, by go_num, heb, HA2, HT2, HR2, O6, E6⟩
                case measure => simp [intOf]; omega
        · obtain rfl : k = m := by omega
          have d8 : decide ((k : Int) < (k : Int)) = false := decide_eq_false (by omega)
          have hR := HR2.out
          rw [List.drop_of_length_le (by rw [Hn.out]; omega), tml] at hR
          subst hR
          have HR := hide HR.out
          have EW := hide (Ext.trans E1.out HE.out)
          have OW := hide (HO.out.less E1.out.size)
          clear HR2 HO HE
          go_wp2_with fail
          go_ret3
          rw [← HR.out]
          exact ⟨_, rfl, OW.out, EW.out⟩
    · rw [if_neg he] at hR
      have HR := hide hR
      have de : (e1 != 0) = true := by rw [bne_iff_ne]; exact he
      clear hb hc hr hR hD hm he
      go_enter Try.func30, Try.ntmps30
      go_wp2_with (go_at_call 44; (with_reducible refine (KD.out).mono ?_); rintro e w1 ⟨A3, c3, rfl, hw, hE⟩; have E1 := hide hE; clear hE hw)
      go_ret3
      rw [← HR.out]
      exact ⟨_, rfl, OwnT.nil_ _ _, E1.out⟩
end Go.Proofs.Ytjmigglibidbdaa
