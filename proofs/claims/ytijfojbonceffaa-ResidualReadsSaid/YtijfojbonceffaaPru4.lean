/- Part 4 of what these claims stand on: contracts of the program's and the reference's functions, and plain facts. Conditions: each states its own. -/
import Derived.Test.YtijfojbonceffaaPru3
import Derived.Deep.DeepAppendWide
import Derived.Deep.RegionHeld3
import Derived.SizedLaws
namespace Go.Proofs.Ytijfojbonceffaa
set_option linter.unusedVariables false
set_option linter.unusedSimpArgs false
section
open Go Go.RowKit
theorem unI_succ (l : List Int) {k o : Nat} (h : k < o) (ho : o ≤ 2) : unI l (k + 1) = sumL (unI l k) := by
  obtain rfl | rfl : k = 0 ∨ k = 1 := by omega
  · rfl
  · rfl
theorem zagL_take {L : List Nat} {j : Nat} (h : j < L.length) : (zagL L).take (j + 1) = (zagL L).take j ++ [zag (L.getD j 0)] := by
  rw [takeT_succ (by rw [zagL, List.length_map]; exact h)]
  simp [zagL, List.getD_eq_getElem?_getD, h]
set_option maxRecDepth 100000 in
set_option maxHeartbeats 3200000 in
theorem r_deR_out (A : Option Addr) (c cap : Nat) (at_ n : Int) (W : World) (hcap2 : c ≤ 4611686018427387904) (hat : I64 at_) (hn : I64 n) (hr : at_ < 0 ∨ (c : Int) < at_ ∨ n < 0 ∨ 65536 < n) :
    Calls Try.prog 35 #[.slice A c cap, .int .i64 at_, .int .i64 n] W (TmRet ([], 0, 2) W) := by
  by_cases h1 : at_ < 0
  · have d1 : decide (at_ < 0) = true := decide_eq_true h1
    clear hr h1
    go_enter Try.func35, Try.ntmps35
    go_wp2_with fail
    go_ret3
    exact ⟨_, rfl, OwnT.nil_ _ _, Ext.refl _⟩
  · have d1 : decide (at_ < 0) = false := decide_eq_false h1
    by_cases h2 : (c : Int) < at_
    · have d2 : decide ((c : Int) < at_) = true := decide_eq_true h2
      clear hr h1 h2
      go_enter Try.func35, Try.ntmps35
      go_wp2_with fail
      go_ret3
      exact ⟨_, rfl, OwnT.nil_ _ _, Ext.refl _⟩
    · have d2 : decide ((c : Int) < at_) = false := decide_eq_false h2
      by_cases h3 : n < 0
      · have d3 : decide (n < 0) = true := decide_eq_true h3
        clear hr h1 h2 h3
        go_enter Try.func35, Try.ntmps35
        go_wp2_with fail
        go_ret3
        exact ⟨_, rfl, OwnT.nil_ _ _, Ext.refl _⟩
      · have d3 : decide (n < 0) = false := decide_eq_false h3
        have d4 : decide ((65536 : Int) < n) = true := decide_eq_true (by omega)
        clear hr h1 h2 h3
        go_enter Try.func35, Try.ntmps35
        go_wp2_with fail
        go_ret3
        exact ⟨_, rfl, OwnT.nil_ _ _, Ext.refl _⟩
set_option maxRecDepth 100000 in
set_option maxHeartbeats 6400000 in
theorem r_deR (A : Option Addr) (c cap : Nat) (b : List Nat) (at_ n : Int) (W : World) (hb : BytesAt W A b) (hc : b.length = c) (hcap : c ≤ cap) (hcap2 : c ≤ 4611686018427387904) (hat : I64 at_) (hn : I64 n) (R : List Int × Int × Int) (hR : deR b at_ n = R) :
    Calls Try.prog 35 #[.slice A c cap, .int .i64 at_, .int .i64 n] W (TmRet R W) := by
  by_cases hr : at_ < 0 ∨ (c : Int) < at_ ∨ n < 0 ∨ 65536 < n
  · have e : deR b at_ n = ([], 0, 2) := if_pos (by omega)
    rw [← hR, e]
    exact r_deR_out A c cap at_ n W hcap2 hat hn hr
  · rw [deR, if_neg (by omega)] at hR
    obtain ⟨a, rfl⟩ := Int.eq_ofNat_of_zero_le (show 0 ≤ at_ by omega)
    obtain ⟨m, rfl⟩ := Int.eq_ofNat_of_zero_le (show 0 ≤ n by omega)
    have hac : a ≤ c := by omega
    have hm : m ≤ 65536 := by omega
    have d1 : decide ((a : Int) < 0) = false := decide_eq_false (by omega)
    have d2 : decide ((c : Int) < (a : Int)) = false := decide_eq_false (by omega)
    have d3 : decide ((m : Int) < 0) = false := decide_eq_false (by omega)
    have d4 : decide ((65536 : Int) < (m : Int)) = false := decide_eq_false (by omega)
    by_cases h0 : a = c
    · rw [if_pos (by omega)] at hR
      subst hR
      clear hb hc hr hac hcap d2
      subst h0
      have d2 : decide ((a : Int) < (a : Int)) = false := decide_eq_false (by omega)
      have d0 : ((a : Int) == (a : Int)) = true := by rw [beq_iff_eq]
      go_enter Try.func35, Try.ntmps35
      go_wp2_with fail
      go_ret3
      exact ⟨_, rfl, OwnT.nil_ _ _, Ext.refl _⟩
    · have d0 : ((a : Int) == (c : Int)) = false := by rw [beq_eq_false_iff_ne]; omega
      rw [if_neg (by omega), Int.toNat_natCast] at hR
      obtain ⟨g, off, rfl, hb1, hc1⟩ := hb.2.2 (by omega)
      have dc := hc1 a (by omega)
      have hix := fun w => idx8o g off c cap a (by omega) w
      have hu8 : b.getD a 0 < 256 := hb.1.get a
      obtain ⟨u, hu⟩ : ∃ u, b.getD a 0 = u := ⟨_, rfl⟩
      rw [hu] at dc hu8 hR
      have Hbg := hide hb1
      have Dc := hide dc
      by_cases hu2 : 2 < u
      · rw [if_pos hu2] at hR
        subst hR
        have d5 : decide ((2 : Int) < (u : Int)) = true := decide_eq_true (by omega)
        have d6 : decide (2 < u) = true := decide_eq_true hu2
        clear hb hc hr hc1 hb1 hu hu2 h0
        go_enter Try.func35, Try.ntmps35
        go_wp2_with fail
        go_ret3
        exact ⟨_, rfl, OwnT.nil_ _ _, Ext.refl _⟩
      · rw [if_neg hu2] at hR
        have hu3 : u ≤ 2 := by omega
        have d5 : decide ((2 : Int) < (u : Int)) = false := decide_eq_false (by omega)
        have d6 : decide (2 < u) = false := decide_eq_false hu2
        obtain ⟨L, nx, e1, hD⟩ : ∃ L nx e1, deN b ((a : Int) + 1) (m : Int) = (L, nx, e1) := ⟨_, _, _, rfl⟩
        rw [hD] at hR
        simp only at hR
        obtain ⟨ml, hml⟩ : ∃ ml, L.length = ml := ⟨_, rfl⟩
        have ia : I64 ((a : Int) + 1) := ⟨by omega, by omega⟩
        have KD : Hid (Calls Try.prog 48 #[.slice (some ⟨g, off, none⟩) c cap, .int .i64 ((a : Int) + 1), .int .i64 (m : Int)] W fun e w' => ∃ A3 c3, e = .returned (.tuple #[.slice A3 ml c3, .int .i64 nx, .int .i64 e1]) ∧ WordsAt w' A3 L ∧ Ext W w') := hide ((r_deN (some ⟨g, off, none⟩) c cap b ((a : Int) + 1) (m : Int) W hb hc hcap hcap2 ia hn _ hD).mono fun e w' h => by
          obtain ⟨A3, c3, rfl, _, _, _, hw, hE⟩ := h.parts
          exact ⟨A3, c3, by rw [hml], hw, hE⟩)
        by_cases he : e1 = 0
        · subst he
          rw [if_neg (by omega)] at hR
          obtain ⟨hq, h1, h2, h3, h4, h5, h6⟩ := deN_canon hD
          obtain ⟨x, rfl⟩ := Int.eq_ofNat_of_zero_le (show 0 ≤ nx by omega)
          rw [Int.toNat_natCast] at hR
          obtain rfl : ml = m := by omega
          have hsl := run_mid (some ⟨g, off, none⟩) c a x cap (by omega) (by omega)
          have hbs := (hb.drop a cap (by omega)).take (x - a)
          have hbl : ((b.drop a).take (x - a)).length = x - a := by rw [List.length_take, List.length_drop]; omega
          obtain ⟨A2, hA2⟩ : ∃ A2 : Option Addr, (if cap = a then some ⟨g, off, none⟩ else (some (⟨g, off, none⟩ : Addr)).map (·.add (a * 1))) = A2 := ⟨_, rfl⟩
          rw [hA2] at hsl hbs
          obtain ⟨q, hqq⟩ : ∃ q, (b.drop a).take (x - a) = q := ⟨_, rfl⟩
          rw [hqq] at hbs hbl hR
          obtain ⟨xa, hxa⟩ : ∃ xa, x - a = xa := ⟨_, rfl⟩
          rw [hxa] at hsl hbl
          have HZt := zagL_t hq
          have hZl : (zagL L).length = ml := by rw [zagL, List.length_map, hml]
          obtain ⟨Z, hZ⟩ : ∃ Z, zagL L = Z := ⟨_, rfl⟩
          have hzt : Hid (∀ j, j < ml → Z.take (j + 1) = Z.take j ++ [zag (L.getD j 0)]) := hide (fun j hj => by rw [← hZ]; exact zagL_take (by omega))
          rw [hZ] at hR HZt hZl
          have KU := hide (fun (x : Nat) (h : x < 18446744073709551616) w => v_unzigzag x w h)
          have KS : Hid (∀ k, k < u → ∀ A c w, TimesAt w A (unI Z k) → Calls Try.prog 50 #[.slice A ml c] w (OwnRetT (unI Z (k + 1)) w)) := hide (fun k hk A c w h => by
            rw [unI_succ Z hk hu3]
            exact r_sum A ml c (unI Z k) w h (by rw [unI_len]; exact hZl) (by omega))
          have HUl : Hid (∀ k, (unI Z k).length = ml) := hide (fun k => by rw [unI_len]; exact hZl)
          obtain ⟨lst, hlst⟩ : ∃ lst, unI Z u = lst := ⟨_, rfl⟩
          have hll := HUl.out u
          rw [hlst] at hR hll
          obtain ⟨bR, hbR⟩ : ∃ bR, bestR lst = bR := ⟨_, rfl⟩
          obtain ⟨zb, hzb⟩ : ∃ zb, bR.length = zb := ⟨_, rfl⟩
          rw [hbR] at hR
          have KE : Hid (∀ A3 c3 w, TimesAt w A3 lst → Calls Try.prog 11 #[.slice A3 ml c3] w fun e w' => ∃ A4 c4, e = .returned (.tuple #[.slice A4 zb c4, .int .i64 0]) ∧ BytesAt w' A4 bR ∧ Ext w w') := hide (fun A3 c3 w h => (r_encR A3 ml c3 lst w h hll).mono fun e w' h => by
            rw [enR_ok (by omega)] at h
            obtain ⟨A4, c4, rfl, _, _, _, h3, hE⟩ := h.parts
            simp only [hbR] at h3
            exact ⟨A4, c4, by simp only [hbR, hzb]; rfl, h3, hE⟩)
          obtain ⟨y, hy⟩ : ∃ y, decide (bR = q) = y := ⟨_, rfl⟩
          have KQ : Hid (∀ A4 c4 w, Ext W w → BytesAt w A4 bR → Calls Try.prog 12 #[.slice A4 zb c4, .slice A2 xa (cap - a)] w (Ret (.bool y) w)) := hide (fun A4 c4 w hw h4 => r_same A4 A2 zb xa c4 (cap - a) bR q w h4 (hbs.ext hw) hzb hbl y hy)
          have HR : Hid ((if y = true then (lst, (x : Int), (0 : Int)) else ([], 0, 5)) = R) := hide (by
            rw [← hR, ← hy]
            by_cases h : bR = q
            · rw [if_pos h, if_pos (decide_eq_true h)]
            · rw [if_neg h, if_neg (by rw [decide_eq_false h]; decide)])
          have hmk := run_mkT ml ml (Nat.le_refl _) (by omega)
          rw [show List.replicate ml 0 = tst (Z.take 0) ml from rfl] at hmk
          have HZl := hide hZl
          have HZt := hide HZt
          have Hq := hide hq
          have Hml := hide hml
          have Hlst := hide hlst
          clear hb hc hr hc1 hb1 hu hu2 h0 hR hD hq h1 h2 h3 h4 h5 h6 hbs hbl hA2 hqq hxa hZl hZ hll hbR hzb hy hml hlst
          go_enter Try.func35, Try.ntmps35
          go_upto_region 11 with (go_at_call 48; (with_reducible refine (KD.out).mono ?_); rintro e w1 ⟨A3, c3, rfl, hw, hE⟩; have HW1 := hide hw; have E1 := hide hE; clear hE hw)
          have B1 := Blk.new w1 2 (t8s (tst [] ml)).toArray
          have E2 := ext_alloc w1 (.cells (t8s (tst [] ml)).toArray 2)
          obtain ⟨w2, hw2⟩ : ∃ w, w1.alloc (.cells (t8s (tst [] ml)).toArray 2) = w := ⟨_, rfl⟩
          rw [hw2] at B1 E2 ⊢
          obtain ⟨g2, hg2⟩ : ∃ g, w1.heap.size = g := ⟨_, rfl⟩
          rw [hg2] at B1 ⊢
          have hgW : w1.heap.size ≤ g2 := by omega
          have B1 : Hid (Blk w2 g2 2 (t8s (tst (Z.take 0) (ml - 0))).toArray) := hide B1
          have E2 := hide E2
          clear hw2 hg2 hmk KD
          go_wp2_with fail
          go_loopw [13] (fun iv wr => ∃ j : Nat, j ≤ ml ∧ iv = .int .i64 (j : Int) ∧ Hid (Blk wr g2 2 (t8s (tst (Z.take j) (ml - j))).toArray) ∧ Hid (Ext w1 wr)) (fun iv _ => ml - (intOf iv).toNat)
          case atStart => exact ⟨0, by omega, rfl, B1, E2⟩
          case round =>
            clear B1 E2
            obtain ⟨j, hj, rfl, HB, HX⟩ := hrel
            by_cases hlj : j < ml
            · have d7 : decide ((j : Int) < (ml : Int)) = true := decide_eq_true (by omega)
              have hjL : j < L.length := by rw [Hml.out]; exact hlj
              obtain ⟨b3, o3, rfl, _, hc3⟩ := (HW1.out.ext HX.out).2.2 (by omega)
              have ct := hc3 j hjL
              have hv := Hq.out.get j
              have hst := hzt.out j hlj
              obtain ⟨v, hvv⟩ : ∃ v, L.getD j 0 = v := ⟨_, rfl⟩
              rw [hvv] at ct hv hst
              have KU1 := hide (fun w => KU.out v hv w)
              obtain ⟨y2, hy2⟩ : ∃ y2, zag v = y2 := ⟨_, rfl⟩
              rw [hy2] at KU1 hst
              obtain ⟨r, hr⟩ : ∃ r, ml - j = r + 1 := ⟨ml - j - 1, by omega⟩
              have hr2 : ml - (j + 1) = r := by omega
              have htl : (Z.take j).length = j := by rw [List.length_take, HZl.out]; omega
              rw [hr] at HB
              have ixa := fun w => idx64 b3 o3 ml c3 j hlj w
              have ixb := fun w => idxTB g2 ml ml j hlj w
              have cn : wr.cell? ⟨g2, j, none⟩ = some (.int .i64 0) := by rw [HB.out.cell]; exact tst_get (Z.take j) r j htl
              have fn := HB.out.frozen j
              have B2 : Hid (Blk (wr.setCell ⟨g2, j, none⟩ (.int .i64 y2)) g2 2 (t8s (tst (Z.take (j + 1)) (ml - (j + 1)))).toArray) := hide (by
                have := HB.out.set_ j (.int .i64 y2)
                rw [tst_set (Z.take j) r y2 j htl, ← hst, ← hr2] at this
                exact this)
              have E3 := hide (Below.setCell HX.out (p := ⟨g2, j, none⟩) hgW (.int .i64 y2))
              clear hc3 hvv hy2 hst hjL htl hr hr2 HB HX hv
              go_wp2_with (go_at_call 49; (with_reducible refine (KU1.out _).mono ?_); rintro e w3 ⟨rfl, rfl⟩)
              go_roundw
              case rel => exact ⟨j + 1, by omega, by go_num, B2, E3⟩
              case measure => simp [intOf]; omega
            · obtain rfl : j = ml := by omega
              have d7 : decide ((j : Int) < (j : Int)) = false := decide_eq_false (by omega)
              have hB := HB.out
              rw [Nat.sub_self, List.take_of_length_le (by rw [HZl.out]; omega), show tst Z 0 = Z by simp [tst]] at hB
              have O1 : Hid (OwnT W.heap.size wr (.slice (some ⟨g2, 0, none⟩) j j) (unI Z 0)) := hide (own_t (Nat.le_trans E1.out.size hgW) hB HZl.out (by omega) HZt.out)
              have E3 := hide (Ext.trans E1.out HX.out)
              clear hB HB HX KU HW1 hzt
              go_wp2_with fail
              go_loopw [12, 14] (fun lv iv wr => ∃ (k : Nat) (A' : Option Addr) (c' : Nat), k ≤ u ∧ iv = .int .i64 (k : Int) ∧ lv = .slice A' j c' ∧ Hid (OwnT W.heap.size wr lv (unI Z k)) ∧ Hid (Ext W wr)) (fun _ iv _ => u - (intOf iv).toNat)
              case atStart => exact ⟨0, _, _, by omega, rfl, rfl, O1, E3⟩
              case round =>
                clear O1 E3
                obtain ⟨k, A', c', hk, rfl, rfl, HO, HE⟩ := hrel
                have dcu := (HE.out.cell (p := ⟨g, off + a, none⟩) Hbg.out).trans Dc.out
                have ecv : IntKind.i64.wrap (u : Int) = (u : Int) := by rw [IntKind.wrap_i64]; omega
                by_cases hlk : k < u
                · have d8 : decide ((k : Int) < (u : Int)) = true := decide_eq_true (by omega)
                  have KS1 := hide (KS.out k hlk A' c' _ (own_times HO.out))
                  have hl1 := HUl.out (k + 1)
                  clear HO
                  go_wp2_with (go_at_call 50; (with_reducible refine (KS1.out).mono ?_); rintro e w5 ⟨v, rfl, ho, hE⟩; have O5 := hide (ho.less HE.out.size); have E5 := hide (Ext.trans HE.out hE); clear ho hE)
                  obtain ⟨A5, c5, rfl, _, _, _⟩ := O5.out.at_
                  go_roundw
                  case rel => exact ⟨k + 1, A5, c5, by omega, by go_num, by rw [hl1], O5, E5⟩
                  case measure => simp [intOf]; omega
                · obtain rfl : k = u := by omega
                  have d8 : decide ((k : Int) < (k : Int)) = false := decide_eq_false (by omega)
                  have hO := HO.out
                  rw [Hlst.out] at hO
                  have HO2 := hide hO
                  have ke := hide (KE.out A' c' _ (own_times hO))
                  clear hO HO
                  cases y with
                  | true =>
                    have HR : Hid ((lst, (x : Int), (0 : Int)) = R) := HR
                    go_wp2_with (first
                      | (go_at_call 11; (with_reducible refine (ke.out).mono ?_); rintro e w6 ⟨A4, c4, rfl, hb4, hE⟩; have E6 := hide (Ext.trans HE.out hE); have O6 := hide (HO2.out.ext hE); have kq := hide (KQ.out A4 c4 w6 E6.out hb4); clear hb4 hE)
                      | (go_at_call 12; (with_reducible refine (kq.out).mono ?_); rintro e w7 ⟨rfl, hE⟩; have E7 := hide (Ext.trans E6.out hE); have O7 := hide (O6.out.ext hE); clear hE))
                    go_ret3
                    rw [← HR.out]
                    exact ⟨_, rfl, O7.out, E7.out⟩
                  | false =>
                    have HR : Hid (([], 0, 5) = R) := HR
                    go_wp2_with (first
                      | (go_at_call 11; (with_reducible refine (ke.out).mono ?_); rintro e w6 ⟨A4, c4, rfl, hb4, hE⟩; have E6 := hide (Ext.trans HE.out hE); have kq := hide (KQ.out A4 c4 w6 E6.out hb4); clear hb4 hE)
                      | (go_at_call 12; (with_reducible refine (kq.out).mono ?_); rintro e w7 ⟨rfl, hE⟩; have E7 := hide (Ext.trans E6.out hE); clear hE))
                    go_ret3
                    rw [← HR.out]
                    exact ⟨_, rfl, OwnT.nil_ _ _, E7.out⟩
        · rw [if_pos he] at hR
          subst hR
          have de : (e1 != 0) = true := by rw [bne_iff_ne]; exact he
          clear hb hc hr hc1 hb1 hu hu2 h0 hD hml he
          go_enter Try.func35, Try.ntmps35
          go_wp2_with (go_at_call 48; (with_reducible refine (KD.out).mono ?_); rintro e w1 ⟨A3, c3, rfl, hw, hE⟩; have E1 := hide hE; clear hE hw)
          go_ret3
          exact ⟨_, rfl, OwnT.nil_ _ _, E1.out⟩
end
section
open Go Go.RowKit
abbrev Fd (p x : Int) : Int := wrap64 (x - p)
abbrev Gd (_ x : Int) : Int := x
abbrev Fs (p x : Int) : Int := wrap64 (p + x)
theorem difF_getD (p : Int) : ∀ (l : List Int) (j : Nat), j < l.length → (difF p l).getD j 0 = wrap64 (l.getD j 0 - (if j = 0 then p else l.getD (j - 1) 0))
  | x :: l, 0, _ => rfl
  | x :: l, j + 1, h => by
    have h' : j < l.length := by simpa using h
    have e : (difF p (x :: l)).getD (j + 1) 0 = (difF x l).getD j 0 := rfl
    rw [e, difF_getD x l j h']
    have e2 : (x :: l).getD (j + 1) 0 = l.getD j 0 := rfl
    have e3 : (x :: l).getD (j + 1 - 1) 0 = if j = 0 then x else l.getD (j - 1) 0 := by
      cases j with
      | zero => rfl
      | succ j => rfl
    rw [e2, if_neg (show ¬ j + 1 = 0 by omega), e3]
theorem difL_getD {l : List Int} (ht : IsT l) {j : Nat} (h : j < l.length) : (difL l).getD j 0 = wrap64 (l.getD j 0 - (if j = 0 then 0 else l.getD (j - 1) 0)) := by
  cases l with
  | nil => simp at h
  | cons x l =>
    cases j with
    | zero =>
      have := ht x (List.mem_cons_self ..)
      rw [if_pos rfl]
      show x = wrap64 (x - 0)
      rw [Int.sub_zero, wrap64_id this]
    | succ j =>
      have h' : j < l.length := by simpa using h
      have e : (difL (x :: l)).getD (j + 1) 0 = (difF x l).getD j 0 := rfl
      rw [e, difF_getD x l j h']
      have e2 : (x :: l).getD (j + 1) 0 = l.getD j 0 := rfl
      have e3 : (x :: l).getD (j + 1 - 1) 0 = if j = 0 then x else l.getD (j - 1) 0 := by
        cases j with
        | zero => rfl
        | succ j => rfl
      rw [e2, if_neg (show ¬ j + 1 = 0 by omega), e3]
theorem sumF_getD (p : Int) : ∀ (l : List Int) (j : Nat), j < l.length → (sumF p l).getD j 0 = wrap64 ((if j = 0 then p else (sumF p l).getD (j - 1) 0) + l.getD j 0)
  | x :: l, 0, _ => rfl
  | x :: l, j + 1, h => by
    have h' : j < l.length := by simpa using h
    have e : (sumF p (x :: l)).getD (j + 1) 0 = (sumF (wrap64 (p + x)) l).getD j 0 := rfl
    rw [e, sumF_getD _ l j h']
    have e2 : (x :: l).getD (j + 1) 0 = l.getD j 0 := rfl
    have e3 : (sumF p (x :: l)).getD (j + 1 - 1) 0 = if j = 0 then wrap64 (p + x) else (sumF (wrap64 (p + x)) l).getD (j - 1) 0 := by
      cases j with
      | zero => rfl
      | succ j => rfl
    rw [e2, if_neg (show ¬ j + 1 = 0 by omega), e3]
theorem sumL_getD {l : List Int} (ht : IsT l) {j : Nat} (h : j < l.length) : (sumL l).getD j 0 = wrap64 ((if j = 0 then 0 else (sumL l).getD (j - 1) 0) + l.getD j 0) := by
  cases l with
  | nil => simp at h
  | cons x l =>
    cases j with
    | zero =>
      have := ht x (List.mem_cons_self ..)
      rw [if_pos rfl]
      show x = wrap64 (0 + x)
      rw [Int.zero_add, wrap64_id this]
    | succ j =>
      have h' : j < l.length := by simpa using h
      have e : (sumL (x :: l)).getD (j + 1) 0 = (sumF x l).getD j 0 := rfl
      rw [e, sumF_getD _ l j h']
      have e2 : (x :: l).getD (j + 1) 0 = l.getD j 0 := rfl
      have e3 : (sumL (x :: l)).getD (j + 1 - 1) 0 = if j = 0 then x else (sumF x l).getD (j - 1) 0 := by
        cases j with
        | zero => rfl
        | succ j => rfl
      rw [e2, if_neg (show ¬ j + 1 = 0 by omega), e3]
/-- What the cells of the chain of differences hold ahead of element j. -/
def pstD (l : List Int) (j : Nat) (i : Nat) : Int := if j = 0 then 0 else (resI l i).getD (j - 1) 0
def pstS (l : List Int) (j : Nat) (i : Nat) : Int := if j = 0 then 0 else (unI l (i + 1)).getD (j - 1) 0
theorem dif_thru {l : List Int} (ht : IsT l) {j : Nat} (h : j < l.length) : ∀ i, i ≤ 2 → thru Fd (pstD l j) (l.getD j 0) i = (resI l i).getD j 0
  | 0, _ => rfl
  | i + 1, hi => by
    rw [thru, dif_thru ht h i (by omega), resI_succ l (show i < 2 by omega) (Nat.le_refl _), difL_getD (resI_t ht i) (by rw [resI_len]; exact h)]
    rfl
theorem dif_aft {l : List Int} (ht : IsT l) {j : Nat} (h : j < l.length) {o i : Nat} (ho : o ≤ 2) (hi : i < o) : aft Fd Gd (pstD l j) (l.getD j 0) o i = pstD l (j + 1) i := by
  unfold aft
  rw [if_pos hi]
  show thru Fd (pstD l j) (l.getD j 0) i = _
  rw [dif_thru ht h i (by omega)]
  unfold pstD
  rw [if_neg (by omega)]; rfl
theorem sum_thru {l : List Int} (ht : IsT l) {j : Nat} (h : j < l.length) : ∀ i, i ≤ 2 → thru Fs (pstS l j) (l.getD j 0) i = (unI l i).getD j 0
  | 0, _ => rfl
  | i + 1, hi => by
    rw [thru, sum_thru ht h i (by omega), unI_succ l (show i < 2 by omega) (Nat.le_refl _), sumL_getD (unI_t ht i) (by rw [unI_len]; exact h), ← unI_succ l (show i < 2 by omega) (Nat.le_refl _)]
    rfl
theorem sum_aft {l : List Int} (ht : IsT l) {j : Nat} (h : j < l.length) {o i : Nat} (ho : o ≤ 2) (hi : i < o) : aft Fs Fs (pstS l j) (l.getD j 0) o i = pstS l (j + 1) i := by
  unfold aft
  rw [if_pos hi]
  show thru Fs (pstS l j) (l.getD j 0) (i + 1) = _
  rw [sum_thru ht h (i + 1) (by omega)]
  unfold pstS
  rw [if_neg (by omega)]; rfl
theorem Rep.store {f h k : Nat} {g : Nat → Nat} {o i B : Nat} {p : Nat → Int} {w : World} (r : Rep f h k g o i B p w) {b : Nat} (hh : h ≠ b) (hk : k ≠ b) (hg : ¬ InG g i b) (j : Nat) (u : Value) : Rep f h k g o i B p (w.setCell ⟨b, j, none⟩ u) :=
  r.keep fun a _ ha => Below.heap_setCell w ⟨b, j, none⟩ u a (fun e => by
    simp only at e
    rcases ha with rfl | rfl | ⟨m, hm, e2⟩
    · exact hh e
    · exact hk e
    · exact hg ⟨m, hm, e2.trans e⟩)
set_option maxHeartbeats 3200000 in
set_option maxRecDepth 100000 in
theorem p_res (A : Option Addr) (n c : Nat) (l : List Int) (od : Int) (W : World) (hl : TimesAt W A l) (hn : l.length = n) (hn2 : n ≤ 17592186043904) (hod : I64 od) :
    Calls Try.prog 13 #[.slice A n c, .int .i64 od] W (UpPost (resR l od) W) := by
  by_cases hr : od < 0 ∨ 2 < od
  · have e : resR l od = none := if_pos hr
    rw [e]
    clear hl hn e
    by_cases h1 : od < 0
    · have d1 : decide (od < 0) = true := decide_eq_true h1
      clear hr h1
      go_enter Try.func13, Try.ntmps13
      go_wp2_with fail
      go_ret2
      exact ⟨_, rfl, OwnQ.nil_ _ _, Ext.refl _⟩
    · have d1 : decide (od < 0) = false := decide_eq_false h1
      have d2 : decide ((2 : Int) < od) = true := decide_eq_true (by omega)
      clear hr h1
      go_enter Try.func13, Try.ntmps13
      go_wp2_with fail
      go_ret2
      exact ⟨_, rfl, OwnQ.nil_ _ _, Ext.refl _⟩
  · have e : resR l od = some (resL l od.toNat) := if_neg hr
    rw [e]
    obtain ⟨o, rfl⟩ := Int.eq_ofNat_of_zero_le (show 0 ≤ od by omega)
    have ho : o ≤ 2 := by omega
    have d1 : decide ((o : Int) < 0) = false := decide_eq_false (by omega)
    have d2 : decide ((2 : Int) < (o : Int)) = false := decide_eq_false (by omega)
    have d3 : decide (2 < o) = false := decide_eq_false (by omega)
    rw [Int.toNat_natCast]
    have KN := hide (p_rep 27 44 p_mkd (fun a w => by go_simp) o ho W)
    have HL : Hid (TimesAt W A l) := hide hl
    have Hn := hide hn
    have HLl : Hid ((resL l o).length = n) := hide (by rw [resL_len]; exact hn)
    have HLq := hide (resL_q hl.1 o)
    have HG : Hid (∀ j, j < n → (resL l o).getD j 0 = zig ((resI l o).getD j 0)) := hide (fun k hk => by
      have hki : k < (resI l o).length := by rw [resI_len]; omega
      simp [resL, List.getD_eq_getElem?_getD, hki])
    have Ht := hide hl.1
    have HIt := hide (resI_t hl.1 o)
    have hmk := run_mk64 n n (Nat.le_refl _) (by omega)
    clear hl hn e hr hod
    go_enter Try.func13, Try.ntmps13
    go_upto_region 4 with (go_at_call 26; (with_reducible refine (KN.out).mono ?_); rintro e w1 ⟨h, k, g, rfl, hR, hE⟩; have R1 := hide hR; have E1 := hide hE; clear hR hE)
    obtain ⟨L, hL⟩ : ∃ L, resL l o = L := ⟨_, rfl⟩
    rw [hL] at HLl HLq HG ⊢
    have HLL := hide hL
    rw [← part_zero L n] at hmk
    have B2 := hide (Blk.new w1 62 (q8s (part L n 0)).toArray)
    have X2 := hide (ext_alloc w1 (.cells (q8s (part L n 0)).toArray 62))
    clear hL KN
    go_upto_region 5 with fail
    obtain ⟨w2, hw2⟩ : ∃ w2, w1.alloc (.cells (q8s (part L n 0)).toArray 62) = w2 := ⟨_, rfl⟩
    rw [hw2] at B2 X2 ⊢
    obtain ⟨b, hb⟩ : ∃ b, w1.heap.size = b := ⟨_, rfl⟩
    have Hhb : Hid (h ≠ b) := hide (by have := R1.out.hv.lt; omega)
    have Hkb : Hid (k ≠ b) := hide (by have := R1.out.kv.lt; omega)
    have Hgb : Hid (¬ InG g o b) := hide (by rintro ⟨i, hi, e⟩; have := (R1.out.gv i hi).lt; omega)
    have Hlo : Hid (∀ a, InG g o a → W.heap.size ≤ a) := hide (by rintro a ⟨i, hi, e⟩; have := R1.out.lo.2.2 i hi; omega)
    have Hbw : Hid (W.heap.size ≤ b) := hide (by have := E1.out.size; omega)
    have R2 : Hid (Rep 44 h k g o o W.heap.size (pstD l 0) w2) := hide (R1.out.ext X2.out)
    have E2 := hide (Ext.trans E1.out X2.out)
    rw [hb] at B2 ⊢
    clear hw2 hb hmk R1 E1 X2
    go_wp2_with fail
    go_loopw [8, 9, 23] (fun _ _ iv wr => ∃ j : Nat, j ≤ n ∧ iv = .int .i64 (j : Int) ∧ Hid (Blk wr b 62 (q8s (part L n j)).toArray) ∧ Hid (Rep 44 h k g o o W.heap.size (pstD l j) wr) ∧ Hid (Ext W wr)) (fun _ _ iv _ => n - (intOf iv).toNat)
    case atStart => exact ⟨0, by omega, rfl, B2, R2, E2⟩
    case round =>
      clear B2 R2 E2
      obtain ⟨j, hj, rfl, HB, HR, HE⟩ := hrel
      by_cases hlj : j < n
      · have d4 : decide ((j : Int) < (n : Int)) = true := decide_eq_true (by omega)
        have hjl : j < l.length := by rw [Hn.out]; exact hlj
        obtain ⟨ba, off, rfl, hb1, hc1⟩ := (HL.out.ext HE.out).2.2 (by omega)
        have ct := hc1 j hjl
        have it := Ht.out.get j
        have hth := dif_thru Ht.out hjl o ho
        have haf := fun i hi => dif_aft Ht.out hjl (o := o) (i := i) ho hi
        have hg := HG.out j hlj
        have iy := HIt.out.get j
        have KC := p_rep1 cl_dif h k g o W.heap.size ho (pstD l j) (l.getD j 0) it wr HR.out
        obtain ⟨x, hx⟩ : ∃ x, l.getD j 0 = x := ⟨_, rfl⟩
        obtain ⟨y, hy⟩ : ∃ y, (resI l o).getD j 0 = y := ⟨_, rfl⟩
        rw [hx] at ct KC hth haf it
        rw [hy] at hth hg iy
        have KC := hide (KC.mono (R' := fun e w' => e = .returned (.int .i64 y) ∧ Rep 44 h k g o o W.heap.size (pstD l (j + 1)) w' ∧ UpdL (InG g o) wr w') (fun e w' hh => ⟨by rw [← hth]; exact hh.1, hh.2.1.congr fun i hi => haf i hi, hh.2.2⟩))
        obtain ⟨q, hq⟩ : ∃ q, zig y = q := ⟨_, rfl⟩
        have KZ := hide (fun w => p_zigzag y w iy.1 iy.2)
        rw [hq] at KZ hg
        have ixa := fun w => idxT ba off n c j hlj w
        have ixb := fun w => idx64B b n n j hlj w
        have Hg := hide hg
        clear hb1 hc1 hx hy hq hth haf hg it iy hjl
        go_wp2_with (first
          | (go_at_call 43; (with_reducible refine (KC.out).mono ?_); rintro e w3 ⟨rfl, hR3, hU3⟩;
             have B3 := hide (HB.out.updL hU3 Hgb.out); have E3 := hide (hU3.ext HE.out Hlo.out); have R3 := hide hR3;
             have hcx := B3.out.cell j; have f3 := B3.out.frozen j;
             rw [List.getElem?_toArray, List.getElem?_eq_getElem (by rw [q8s_len, part_len HLl.out hj]; exact hlj)] at hcx; clear hR3 hU3)
          | (go_at_call 28; (with_reducible refine (KZ.out _).mono ?_); rintro e w4 ⟨rfl, rfl⟩))
        have B4 := hide (part_store B3.out HLl.out hlj Hg.out)
        have R4 := hide (R3.out.store Hhb.out Hkb.out Hgb.out j (.int .u64 (q : Int)))
        have E4 := hide (Below.setCell E3.out (p := ⟨b, j, none⟩) Hbw.out (.int .u64 (q : Int)))
        clear B3 R3 E3 HB HR HE hcx f3
        go_roundw
        case rel => exact ⟨j + 1, by omega, by go_num, B4, R4, E4⟩
        case measure => simp [intOf]; omega
      · obtain rfl : j = n := by omega
        have d4 : decide ((j : Int) < (j : Int)) = false := decide_eq_false (by omega)
        have hB := HB.out
        rw [part_end HLl.out] at hB
        have hB2 := hide hB
        clear hB HB
        go_wp2_with fail
        go_ret2
        refine ⟨_, rfl, ?_, HE.out⟩
        show OwnQ _ _ _ (resL l o)
        rw [HLL.out]
        exact own_qL Hbw.out hB2.out HLl.out (by omega) HLq.out
theorem zagL_get (L : List Nat) {j : Nat} (h : j < L.length) : (zagL L).getD j 0 = zag (L.getD j 0) := by
  simp [zagL, List.getD_eq_getElem?_getD, h]
set_option maxHeartbeats 3200000 in
set_option maxRecDepth 100000 in
theorem p_listOfR (A : Option Addr) (n c : Nat) (L : List Nat) (o : Nat) (ho : o ≤ 2) (W : World) (hl : WordsAt W A L) (hn : L.length = n) (hn2 : n ≤ 65536) :
    Calls Try.prog 37 #[.slice A n c, .int .i64 (o : Int)] W (OwnRetT (unI (zagL L) o) W) := by
  have KN := hide (p_rep 52 65 p_mks (fun a w => by go_simp) o ho W)
  have HL := hide hl
  have Hn := hide hn
  have Hq := hide hl.1
  have hzl : (zagL L).length = n := by rw [zagL, List.length_map, hn]
  have Hzt := hide (zagL_t hl.1)
  obtain ⟨Z, hZ⟩ : ∃ Z, zagL L = Z := ⟨_, rfl⟩
  have Hzg : Hid (∀ j, j < n → Z.getD j 0 = zag (L.getD j 0)) := hide (fun j hj => by rw [← hZ]; exact zagL_get L (by omega))
  rw [hZ] at hzl Hzt ⊢
  have Hzl := hide hzl
  obtain ⟨T, hT⟩ : ∃ T, unI Z o = T := ⟨_, rfl⟩
  have Htt := hide (unI_t Hzt.out o)
  have Htl : Hid (T.length = n) := hide (by rw [← hT, unI_len, hzl])
  rw [hT] at Htt ⊢
  have HT := hide hT
  have hmk := run_mkT n n (Nat.le_refl _) (by omega)
  rw [show List.replicate n 0 = tst [] n from rfl] at hmk
  clear hl hn hZ hzl hT
  go_enter Try.func37, Try.ntmps37
  go_upto_region 2 with (go_at_call 26; (with_reducible refine (KN.out).mono ?_); rintro e w1 ⟨h, k, g, rfl, hR, hE⟩; have R1 := hide hR; have E1 := hide hE; clear hR hE)
  have B2 := hide (Blk.new w1 2 (t8s (tst [] n)).toArray)
  have X2 := hide (ext_alloc w1 (.cells (t8s (tst [] n)).toArray 2))
  clear KN
  go_upto_region 3 with fail
  obtain ⟨w2, hw2⟩ : ∃ w2, w1.alloc (.cells (t8s (tst [] n)).toArray 2) = w2 := ⟨_, rfl⟩
  rw [hw2] at B2 X2 ⊢
  obtain ⟨b, hb⟩ : ∃ b, w1.heap.size = b := ⟨_, rfl⟩
  have Hhb : Hid (h ≠ b) := hide (by have := R1.out.hv.lt; omega)
  have Hkb : Hid (k ≠ b) := hide (by have := R1.out.kv.lt; omega)
  have Hgb : Hid (¬ InG g o b) := hide (by rintro ⟨i, hi, e⟩; have := (R1.out.gv i hi).lt; omega)
  have Hlo : Hid (∀ a, InG g o a → W.heap.size ≤ a) := hide (by rintro a ⟨i, hi, e⟩; have := R1.out.lo.2.2 i hi; omega)
  have Hbw : Hid (W.heap.size ≤ b) := hide (by have := E1.out.size; omega)
  have R2 : Hid (Rep 65 h k g o o W.heap.size (pstS Z 0) w2) := hide (R1.out.ext X2.out)
  have E2 := hide (Ext.trans E1.out X2.out)
  rw [hb] at B2 ⊢
  have B2 : Hid (Blk w2 b 2 (t8s (tst (T.take 0) (n - 0))).toArray) := B2
  clear hw2 hb hmk R1 E1 X2
  go_wp2_with fail
  go_loopw [7, 8, 16] (fun _ _ iv wr => ∃ j : Nat, j ≤ n ∧ iv = .int .i64 (j : Int) ∧ Hid (Blk wr b 2 (t8s (tst (T.take j) (n - j))).toArray) ∧ Hid (Rep 65 h k g o o W.heap.size (pstS Z j) wr) ∧ Hid (Ext W wr)) (fun _ _ iv _ => n - (intOf iv).toNat)
  case atStart => exact ⟨0, by omega, rfl, B2, R2, E2⟩
  case round =>
    clear B2 R2 E2
    obtain ⟨j, hj, rfl, HB, HR, HE⟩ := hrel
    by_cases hlj : j < n
    · have d4 : decide ((j : Int) < (n : Int)) = true := decide_eq_true (by omega)
      have hjl : j < L.length := by rw [Hn.out]; exact hlj
      have hjz : j < Z.length := by rw [Hzl.out]; exact hlj
      have hjt : j < T.length := by rw [Htl.out]; exact hlj
      obtain ⟨ba, off, rfl, hb1, hc1⟩ := (HL.out.ext HE.out).2.2 (by omega)
      have ct := hc1 j hjl
      have iv := Hq.out.get j
      have hzj := Hzg.out j hlj
      have ix := Hzt.out.get j
      have hth := sum_thru Hzt.out hjz o ho
      have haf := fun i hi => sum_aft Hzt.out hjz (o := o) (i := i) ho hi
      rw [HT.out] at hth
      have htk := takeT_succ hjt
      have KC := p_rep1 cl_sum h k g o W.heap.size ho (pstS Z j) (Z.getD j 0) ix wr HR.out
      obtain ⟨v, hv⟩ : ∃ v, L.getD j 0 = v := ⟨_, rfl⟩
      obtain ⟨x, hx⟩ : ∃ x, Z.getD j 0 = x := ⟨_, rfl⟩
      obtain ⟨y, hy⟩ : ∃ y, T.getD j 0 = y := ⟨_, rfl⟩
      rw [hv] at ct iv hzj
      rw [hx] at KC hth haf ix hzj
      rw [hy] at hth htk
      have KC := hide (KC.mono (R' := fun e w' => e = .returned (.int .i64 y) ∧ Rep 65 h k g o o W.heap.size (pstS Z (j + 1)) w' ∧ UpdL (InG g o) wr w') (fun e w' hh => ⟨by rw [← hth]; exact hh.1, hh.2.1.congr fun i hi => haf i hi, hh.2.2⟩))
      have KZ := hide (fun w => p_unzigzag v w iv)
      rw [← hzj] at KZ
      obtain ⟨r, hr⟩ : ∃ r, n - j = r + 1 := ⟨n - j - 1, by omega⟩
      have hr2 : n - (j + 1) = r := by omega
      have htl : (T.take j).length = j := by rw [List.length_take]; omega
      rw [hr] at HB
      have Htk := hide htk
      have Hr2 := hide hr2
      have Hjl := hide htl
      have ixa := fun w => idx64 ba off n c j hlj w
      have ixb := fun w => idxTB b n n j hlj w
      clear hb1 hc1 hv hx hy hth haf iv ix hjl hjz hjt hzj hr hr2 htl htk
      go_wp2_with (first
        | (go_at_call 53; (with_reducible refine (KZ.out _).mono ?_); rintro e w4 ⟨rfl, rfl⟩)
        | (go_at_call 43; (with_reducible refine (KC.out).mono ?_); rintro e w3 ⟨rfl, hR3, hU3⟩;
           have B3 := hide (HB.out.updL hU3 Hgb.out); have E3 := hide (hU3.ext HE.out Hlo.out); have R3 := hide hR3;
           have hcx : w3.cell? ⟨b, j, none⟩ = some (.int .i64 0) := by (rw [B3.out.cell]; exact tst_get (T.take j) r j Hjl.out);
           have f3 := B3.out.frozen j; clear hR3 hU3))
      have B4 : Hid (Blk (w3.setCell ⟨b, j, none⟩ (.int .i64 y)) b 2 (t8s (tst (T.take (j + 1)) (n - (j + 1)))).toArray) := hide (by
        have := B3.out.set_ j (.int .i64 y)
        rw [tst_set (T.take j) r y j Hjl.out, ← Htk.out, ← Hr2.out] at this
        exact this)
      have R4 := hide (R3.out.store Hhb.out Hkb.out Hgb.out j (.int .i64 y))
      have E4 := hide (Below.setCell E3.out (p := ⟨b, j, none⟩) Hbw.out (.int .i64 y))
      clear B3 R3 E3 HB HR HE hcx f3
      go_roundw
      case rel => exact ⟨j + 1, by omega, by go_num, B4, R4, E4⟩
      case measure => simp [intOf]; omega
    · obtain rfl : j = n := by omega
      have d4 : decide ((j : Int) < (j : Int)) = false := decide_eq_false (by omega)
      have hB := HB.out
      rw [Nat.sub_self, List.take_of_length_le (by rw [Htl.out]; omega), show tst T 0 = T by simp [tst]] at hB
      have hB2 := hide hB
      clear hB HB
      go_wp2_with fail
      go_ret
      exact ⟨_, rfl, own_t Hbw.out hB2.out Htl.out (by omega) Htt.out, HE.out⟩
end
section
open Go Go.RowKit
theorem one_splice (k : Nat) (x : List Nat) (S : Nat) (h : x.length = S) : splice (u8s (k :: List.replicate S 0)) 1 (u8s x) = u8s (k :: x) := by
  unfold splice
  have e : (u8s (k :: List.replicate S 0)).drop (1 + (u8s x).length) = [] := List.drop_eq_nil_of_le (by rw [u8s_len, u8s_len]; simp; omega)
  rw [e]
  simp [u8s]
set_option maxHeartbeats 3200000 in
set_option maxRecDepth 100000 in
theorem p_encOf (A : Option Addr) (n c : Nat) (l : List Int) (o : Nat) (ho : o ≤ 2) (W : World) (hl : TimesAt W A l) (hn : l.length = n) (hn2 : n ≤ 65536) :
    Calls Try.prog 25 #[.slice A n c, .int .i64 (o : Int)] W (OwnRet (cR l o) W) := by
  have KR : Hid (Calls Try.prog 13 #[.slice A n c, .int .i64 (o : Int)] W fun e w' => ∃ A1 c1, e = .returned (.tuple #[.slice A1 n c1, .bool true]) ∧ WordsAt w' A1 (resL l o) ∧ Ext W w') := hide (by
    have e : resR l (o : Int) = some (resL l o) := by unfold resR; rw [if_neg (by omega), Int.toNat_natCast]
    have := p_res A n c l (o : Int) W hl hn (by omega) ⟨by omega, by omega⟩
    rw [e] at this
    refine this.mono fun e w' h => ?_
    obtain ⟨v, rfl, ho, hE⟩ := h
    obtain ⟨A1, c1, rfl, _, _, hw⟩ := ho.at_
    exact ⟨A1, c1, by rw [show (some (resL l o)).getD [] = resL l o from rfl, resL_len, hn]; rfl, hw, hE⟩)
  have hb := cR_b hl.1 ho
  have hcl := cR_len hl.1 (by omega) o
  have e0 : cR l o = o :: (enN (resL l o)).1 := rfl
  rw [e0] at hb hcl ⊢
  obtain ⟨F, hF⟩ : ∃ F, (enN (resL l o)).1 = F := ⟨_, rfl⟩
  obtain ⟨S, hS⟩ : ∃ S, F.length = S := ⟨_, rfl⟩
  obtain ⟨ze, hze⟩ : ∃ ze, (enN (resL l o)).2 = ze := ⟨_, rfl⟩
  rw [hF] at hb hcl ⊢
  rw [List.length_cons, hS] at hcl
  have KE : Hid (∀ A1 c1 w, WordsAt w A1 (resL l o) → Calls Try.prog 42 #[.slice A1 n c1] w (fun e w' => ∃ A4 c4, e = .returned (.tuple #[.slice A4 S c4, .int .i64 (ze : Int)]) ∧ BytesAt w' A4 F ∧ Ext w w')) := hide (fun A1 c1 w h => (p_encN A1 n c1 (resL l o) w h (by rw [resL_len]; exact hn)).mono fun e w' h => by
    obtain ⟨A4, c4, rfl, _, _, _, h3, hE⟩ := h.parts
    rw [hF] at h3
    exact ⟨A4, c4, by rw [hF, hS, hze], h3, hE⟩)
  have hS2 : S ≤ 1048000 := by omega
  obtain ⟨K, hK⟩ : ∃ K, 1 + S = K := ⟨_, rfl⟩
  have hm := run_mk8b K K (Nat.le_refl _) (by omega)
  have er : List.replicate K 0 = 0 :: List.replicate S 0 := by rw [← hK, Nat.add_comm, List.replicate_succ]
  rw [er] at hm
  have eK : (1 : Int) + (S : Int) = (K : Int) := by omega
  have hcv : IntKind.u8.wrap (o : Int) = (o : Int) := by rw [wrap_8]; omega
  have hcv2 : (o : Int) % 256 = (o : Int) := by omega
  have HF := hide hS
  have Hb := hide hb
  have HK := hide hK
  clear hl hn hF hze e0 hS hb hcl hK er
  go_enter Try.func25, Try.ntmps25
  go_upto_region 3 with (first
    | (go_at_call 13; (with_reducible refine (KR.out).mono ?_); rintro e w1 ⟨A1, c1, rfl, hw, hE⟩; have E1 := hide hE; have ke := hide (KE.out A1 c1 w1 hw); clear hw hE)
    | (go_at_call 42; (with_reducible refine (ke.out).mono ?_); rintro e w2 ⟨A4, c4, rfl, hb, hE⟩; have E2 := hide (Ext.trans E1.out hE); have b2 := hide hb; clear hb hE))
  have B3 := hide (Blk.new w2 5 (u8s (0 :: List.replicate S 0)).toArray)
  have X3 := hide (ext_alloc w2 (.cells (u8s (0 :: List.replicate S 0)).toArray 5))
  go_upto_region 4 with fail
  obtain ⟨w3, hw3⟩ : ∃ w3, w2.alloc (.cells (u8s (0 :: List.replicate S 0)).toArray 5) = w3 := ⟨_, rfl⟩
  obtain ⟨g, hg⟩ : ∃ g, w2.heap.size = g := ⟨_, rfl⟩
  rw [hw3] at B3 X3 ⊢
  rw [hg] at B3 ⊢
  have hgw : W.heap.size ≤ g := by have := E2.out.size; omega
  have E3 := hide (Ext.trans E2.out X3.out)
  have b3 := hide (b2.out.ext X3.out)
  have hix := idx8B g K K 0 0 rfl (by have := HK.out; omega)
  have c0 : w3.cell? ⟨g, 0, none⟩ = some (.int .u8 0) := by rw [B3.out.cell]; rfl
  have f0 := B3.out.frozen 0
  have B4 : Hid (Blk (w3.setCell ⟨g, 0, none⟩ (.int .u8 (o : Int))) g 5 (u8s (o :: List.replicate S 0)).toArray) := hide (by
    have := B3.out.set_ 0 (.int .u8 (o : Int))
    rw [show (u8s (0 :: List.replicate S 0)).toArray.setIfInBounds 0 (.int .u8 (o : Int)) = (u8s (o :: List.replicate S 0)).toArray by simp [u8s]] at this
    exact this)
  have E4 := hide (Below.setCell E3.out (p := ⟨g, 0, none⟩) hgw (.int .u8 (o : Int)))
  have b4 := hide (b2.out.ext (Below.setCell X3.out (p := ⟨g, 0, none⟩) (Nat.le_of_eq hg) (.int .u8 (o : Int))))
  clear b3 b2 E3 X3 B3 hw3 hg hm
  go_upto_region 5 with fail
  have hs : ∀ w, (Instr.slice 28 (.slice (some ⟨g, 0, none⟩) K K) (some (.int .i64 1)) none none).run Try.prog w = .ok (.slice (if S = 0 then some ⟨g, 0, none⟩ else some ⟨g, 1, none⟩) S S) w := fun w => by
    have hk := HK.out
    have := run_from (some ⟨g, 0, none⟩) K 1 K (by omega) w
    rw [show K - 1 = S by omega] at this
    by_cases h0 : S = 0
    · rw [if_pos (by omega)] at this
      rw [if_pos h0]; exact this
    · rw [if_neg (by omega)] at this
      rw [if_neg h0]; simpa [add_at] using this
  obtain ⟨P0, hP0⟩ : ∃ P0 : Option Addr, (if S = 0 then some ⟨g, 0, none⟩ else some ⟨g, 1, none⟩) = P0 := ⟨_, rfl⟩
  rw [hP0] at hs
  have HP0 := hide hP0
  obtain ⟨X, hX⟩ : ∃ X, u8s F = X := ⟨_, rfl⟩
  have hXl : X.length = S := by rw [← hX, u8s_len, HF.out]
  have Ho := hide (show ∀ v ∈ X, v.oneCell' = true by rw [← hX]; exact u8s_one _)
  have Hmn := hide (show X.length = Nat.min S S by rw [hXl]; exact (Nat.min_self _).symm)
  have Hsp := hide (one_splice o F S HF.out)
  rw [hX] at Hsp
  have HX := hide hX
  have Hft := hide (show 1 + X.length ≤ (u8s (o :: List.replicate S 0)).length by rw [hXl, u8s_len]; simp; omega)
  have HXl := hide hXl
  clear hP0 hX hXl hix c0 f0
  generalize (w3.setCell ⟨g, 0, none⟩ (.int .u8 (o : Int))) = w4 at *
  go_wp2_with (refine wpList_copy_splice rfl (.tmp 30) (.tmp 31) 28 28 rfl 5 Try.underlying28 sz8 P0 A4 S S S c4 rfl rfl g 1 (u8s (o :: List.replicate S 0)) 5 B4.out X Hmn.out (fun hp => ⟨by rw [← HP0.out, if_neg (by have := HXl.out; omega)], by obtain ⟨b, off, rfl, _, _⟩ := b4.out.2.2 (by have := HXl.out; have := HF.out; omega); exact ⟨_, rfl, by rw [← HX.out]; exact cells_of_bytes b4.out⟩⟩) Hft.out Ho.out W.heap.size W E4.out hgw ?_; intro w5 N5 hE5)
  go_ret
  have hN := N5.out
  rw [Hsp.out] at hN
  exact ⟨_, rfl, own_of (m := []) hgw (by rw [List.append_nil]; exact hN) (by have := HF.out; have := HK.out; simp; omega) (by simp) (by have := HK.out; omega) Hb.out, hE5⟩
theorem bst_one (l : List Int) : bst l 1 = cR l 0 := bst_yes (Or.inl rfl)
set_option maxHeartbeats 3200000 in
set_option maxRecDepth 100000 in
theorem p_encR (A : Option Addr) (n c : Nat) (l : List Int) (W : World) (hl : TimesAt W A l) (hn : l.length = n) :
    Calls Try.prog 10 #[.slice A n c] W (EncRet (enR l).1 (enR l).2 W) := by
  have hn63 : n ≤ 9223372036854775807 := by have := hl.2.1; omega
  by_cases hc : 65536 < n
  · have e : enR l = ([], 3) := if_pos (by omega)
    rw [e]
    have d1 : decide ((65536 : Int) < (n : Int)) = true := decide_eq_true (by omega)
    clear hl hn e
    go_enter Try.func10, Try.ntmps10
    go_wp2_with fail
    go_ret2
    exact ⟨_, rfl, OwnB.nil_ _ _, Ext.refl _⟩
  · have d1 : decide ((65536 : Int) < (n : Int)) = false := decide_eq_false (by omega)
    have hn2 : n ≤ 65536 := by omega
    have e : enR l = (bestR l, 0) := enR_ok (by omega)
    rw [e]
    have KR : Hid (∀ k : Nat, k ≤ 2 → ∀ w, Ext W w → Calls Try.prog 25 #[.slice A n c, .int .i64 (k : Int)] w (OwnRet (cR l k) w)) := hide (fun k hk w hE => p_encOf A n c l k hk w (hl.ext hE) hn hn2)
    have K0 : Hid (Calls Try.prog 25 #[.slice A n c, .int .i64 0] W (OwnRet (bst l 1) W)) := hide (by rw [bst_one l]; exact KR.out 0 (by omega) W (Ext.refl _))
    have Hbl : Hid (∀ k, (bst l k).length ≤ 700000) := hide (fun k => by have := bst_len hl.1 (by omega) k; omega)
    have Hcl : Hid (∀ k, (cR l k).length ≤ 700000) := hide (fun k => by have := cR_len hl.1 (by omega) k; omega)
    clear hl hn e hc
    go_enter Try.func10, Try.ntmps10
    go_wp2_with (go_at_call 25; (with_reducible refine (K0.out).mono ?_); rintro e w1 ⟨v0, rfl, hO, hE⟩; have O1 := hide hO; have E1 := hide hE; clear hO hE)
    go_loopw [4, 5] (fun bv iv wr => ∃ k : Nat, 1 ≤ k ∧ k ≤ 3 ∧ iv = .int .i64 (k : Int) ∧ Hid (OwnB W.heap.size wr bv (bst l k)) ∧ Hid (Ext W wr)) (fun _ iv _ => 3 - (intOf iv).toNat)
    case atStart => exact ⟨1, by omega, by omega, rfl, O1, E1⟩
    case round =>
      clear O1 E1 K0
      obtain ⟨k, hk1, hk, rfl, HO, HE⟩ := hrel
      by_cases hlt : k ≤ 2
      · have d2 : decide ((k : Int) ≤ 2) = true := decide_eq_true (by omega)
        have KR1 := hide (KR.out k hlt wr HE.out)
        have hcl := Hcl.out k
        have hbl := Hbl.out k
        have hy := bst_yes (l := l) (k := k)
        have hno := bst_no (l := l) (k := k)
        obtain ⟨Ab, cb, rfl, _, _, -⟩ := HO.out.at_
        obtain ⟨F, hF⟩ : ∃ F, cR l k = F := ⟨_, rfl⟩
        obtain ⟨z, hz⟩ : ∃ z, F.length = z := ⟨_, rfl⟩
        obtain ⟨bk, hbk⟩ : ∃ bk, bst l k = bk := ⟨_, rfl⟩
        obtain ⟨bn, hbn⟩ : ∃ bn, bk.length = bn := ⟨_, rfl⟩
        rw [hF, hz] at hcl
        rw [hF] at KR1
        rw [hF, hz, hbk, hbn] at hy hno
        rw [hbk, hbn] at hbl
        rw [hbk] at HO ⊢
        rw [hbn] at HO ⊢
        have Hz := hide hz
        clear hF hz hbk hbn
        by_cases hcond : z < bn
        · have hst := hide (hy (Or.inr hcond))
          have d3 : decide (z < bn) = true := decide_eq_true hcond
          clear hy hno hcond
          go_wp2_with (go_at_call 25; (with_reducible refine (KR1.out).mono ?_); rintro e w2 ⟨v2, rfl, hO, hE⟩; have E2 := hide (Ext.trans HE.out hE); have hO := hO.less HE.out.size; have O2 : Hid (OwnB W.heap.size w2 v2 (bst l (k + 1))) := hide (by rw [hst.out]; exact hO); obtain ⟨A2, c2, rfl, _, _, _⟩ := hO.at_; rw [Hz.out]; clear hO hE)
          rw [Hz.out] at O2
          go_roundw
          case rel => exact ⟨k + 1, by omega, by omega, by go_num, O2, E2⟩
          case measure => simp [intOf]; omega
        · have hst := hide (hno (by omega))
          have d3 : decide (z < bn) = false := decide_eq_false hcond
          clear hy hno hcond
          go_wp2_with (go_at_call 25; (with_reducible refine (KR1.out).mono ?_); rintro e w2 ⟨v2, rfl, hO, hE⟩; have E2 := hide (Ext.trans HE.out hE); obtain ⟨A2, c2, rfl, _, _, _⟩ := hO.at_; rw [Hz.out]; have O2 : Hid (OwnB W.heap.size w2 (.slice Ab bn cb) (bst l (k + 1))) := hide (by rw [hst.out]; exact HO.out.ext hE); clear hO hE)
          go_roundw
          case rel => exact ⟨k + 1, by omega, by omega, by go_num, O2, E2⟩
          case measure => simp [intOf]; omega
      · obtain rfl : k = 3 := by omega
        have hO := HO.out
        rw [bst_end] at hO
        have hO3 := hide hO
        clear hO HO
        go_wp2_with fail
        go_ret2
        exact ⟨_, rfl, hO3.out, HE.out⟩
set_option maxRecDepth 100000 in
set_option maxHeartbeats 3200000 in
theorem p_deR_out (A : Option Addr) (c cap : Nat) (at_ n : Int) (W : World) (hcap2 : c ≤ 4611686018427387904) (hat : I64 at_) (hn : I64 n) (hr : at_ < 0 ∨ (c : Int) < at_ ∨ n < 0 ∨ 65536 < n) :
    Calls Try.prog 22 #[.slice A c cap, .int .i64 at_, .int .i64 n] W (TmRet ([], 0, 2) W) := by
  by_cases h1 : at_ < 0
  · have d1 : decide (at_ < 0) = true := decide_eq_true h1
    clear hr h1
    go_enter Try.func22, Try.ntmps22
    go_wp2_with fail
    go_ret3
    exact ⟨_, rfl, OwnT.nil_ _ _, Ext.refl _⟩
  · have d1 : decide (at_ < 0) = false := decide_eq_false h1
    by_cases h2 : (c : Int) < at_
    · have d2 : decide ((c : Int) < at_) = true := decide_eq_true h2
      clear hr h1 h2
      go_enter Try.func22, Try.ntmps22
      go_wp2_with fail
      go_ret3
      exact ⟨_, rfl, OwnT.nil_ _ _, Ext.refl _⟩
    · have d2 : decide ((c : Int) < at_) = false := decide_eq_false h2
      by_cases h3 : n < 0
      · have d3 : decide (n < 0) = true := decide_eq_true h3
        clear hr h1 h2 h3
        go_enter Try.func22, Try.ntmps22
        go_wp2_with fail
        go_ret3
        exact ⟨_, rfl, OwnT.nil_ _ _, Ext.refl _⟩
      · have d3 : decide (n < 0) = false := decide_eq_false h3
        have d4 : decide ((65536 : Int) < n) = true := decide_eq_true (by omega)
        clear hr h1 h2 h3
        go_enter Try.func22, Try.ntmps22
        go_wp2_with fail
        go_ret3
        exact ⟨_, rfl, OwnT.nil_ _ _, Ext.refl _⟩
set_option maxRecDepth 100000 in
set_option maxHeartbeats 6400000 in
theorem p_deR (A : Option Addr) (c cap : Nat) (b : List Nat) (at_ n : Int) (W : World) (hb : BytesAt W A b) (hc : b.length = c) (hcap : c ≤ cap) (hcap2 : c ≤ 4611686018427387904) (hat : I64 at_) (hn : I64 n) (R : List Int × Int × Int) (hR : deR b at_ n = R) :
    Calls Try.prog 22 #[.slice A c cap, .int .i64 at_, .int .i64 n] W (TmRet R W) := by
  by_cases hr : at_ < 0 ∨ (c : Int) < at_ ∨ n < 0 ∨ 65536 < n
  · have e : deR b at_ n = ([], 0, 2) := if_pos (by omega)
    rw [← hR, e]
    exact p_deR_out A c cap at_ n W hcap2 hat hn hr
  · rw [deR, if_neg (by omega)] at hR
    obtain ⟨a, rfl⟩ := Int.eq_ofNat_of_zero_le (show 0 ≤ at_ by omega)
    obtain ⟨m, rfl⟩ := Int.eq_ofNat_of_zero_le (show 0 ≤ n by omega)
    have hac : a ≤ c := by omega
    have hm : m ≤ 65536 := by omega
    have d1 : decide ((a : Int) < 0) = false := decide_eq_false (by omega)
    have d2 : decide ((c : Int) < (a : Int)) = false := decide_eq_false (by omega)
    have d3 : decide ((m : Int) < 0) = false := decide_eq_false (by omega)
    have d4 : decide ((65536 : Int) < (m : Int)) = false := decide_eq_false (by omega)
    by_cases h0 : a = c
    · rw [if_pos (by omega)] at hR
      subst hR
      clear hb hc hr hac hcap d2
      subst h0
      have d2 : decide ((a : Int) < (a : Int)) = false := decide_eq_false (by omega)
      have d0 : ((a : Int) == (a : Int)) = true := by rw [beq_iff_eq]
      go_enter Try.func22, Try.ntmps22
      go_wp2_with fail
      go_ret3
      exact ⟨_, rfl, OwnT.nil_ _ _, Ext.refl _⟩
    · have d0 : ((a : Int) == (c : Int)) = false := by rw [beq_eq_false_iff_ne]; omega
      rw [if_neg (by omega), Int.toNat_natCast] at hR
      obtain ⟨g, off, rfl, hb1, hc1⟩ := hb.2.2 (by omega)
      have dc := hc1 a (by omega)
      have hix := fun w => idx8o g off c cap a (by omega) w
      have hu8 : b.getD a 0 < 256 := hb.1.get a
      obtain ⟨u, hu⟩ : ∃ u, b.getD a 0 = u := ⟨_, rfl⟩
      rw [hu] at dc hu8 hR
      have ecv : IntKind.i64.wrap (u : Int) = (u : Int) := by rw [IntKind.wrap_i64]; omega
      by_cases hu2 : 2 < u
      · rw [if_pos hu2] at hR
        subst hR
        have d5 : decide ((2 : Int) < (u : Int)) = true := decide_eq_true (by omega)
        have d6 : decide (2 < u) = true := decide_eq_true hu2
        clear hb hc hr hc1 hb1 hu hu2 h0
        go_enter Try.func22, Try.ntmps22
        go_wp2_with fail
        go_ret3
        exact ⟨_, rfl, OwnT.nil_ _ _, Ext.refl _⟩
      · rw [if_neg hu2] at hR
        have hu3 : u ≤ 2 := by omega
        have d5 : decide ((2 : Int) < (u : Int)) = false := decide_eq_false (by omega)
        have d6 : decide (2 < u) = false := decide_eq_false hu2
        obtain ⟨L, nx, e1, hD⟩ : ∃ L nx e1, deN b ((a : Int) + 1) (m : Int) = (L, nx, e1) := ⟨_, _, _, rfl⟩
        rw [hD] at hR
        simp only at hR
        obtain ⟨ml, hml⟩ : ∃ ml, L.length = ml := ⟨_, rfl⟩
        have ia : I64 ((a : Int) + 1) := ⟨by omega, by omega⟩
        have KD : Hid (Calls Try.prog 36 #[.slice (some ⟨g, off, none⟩) c cap, .int .i64 ((a : Int) + 1), .int .i64 (m : Int)] W fun e w' => ∃ A3 c3, e = .returned (.tuple #[.slice A3 ml c3, .int .i64 nx, .int .i64 e1]) ∧ WordsAt w' A3 L ∧ Ext W w') := hide ((p_deN (some ⟨g, off, none⟩) c cap b ((a : Int) + 1) (m : Int) W hb hc hcap hcap2 ia hn _ hD).mono fun e w' h => by
          obtain ⟨A3, c3, rfl, _, _, _, hw, hE⟩ := h.parts
          exact ⟨A3, c3, by rw [hml], hw, hE⟩)
        by_cases he : e1 = 0
        · subst he
          rw [if_neg (by omega)] at hR
          obtain ⟨hq, h1, h2, h3, h4, h5, h6⟩ := deN_canon hD
          obtain ⟨x, rfl⟩ := Int.eq_ofNat_of_zero_le (show 0 ≤ nx by omega)
          rw [Int.toNat_natCast] at hR
          obtain rfl : ml = m := by omega
          have hsl := run_mid (some ⟨g, off, none⟩) c a x cap (by omega) (by omega)
          have hbs := (hb.drop a cap (by omega)).take (x - a)
          have hbl : ((b.drop a).take (x - a)).length = x - a := by rw [List.length_take, List.length_drop]; omega
          obtain ⟨A2, hA2⟩ : ∃ A2 : Option Addr, (if cap = a then some ⟨g, off, none⟩ else (some (⟨g, off, none⟩ : Addr)).map (·.add (a * 1))) = A2 := ⟨_, rfl⟩
          rw [hA2] at hsl hbs
          obtain ⟨q, hqq⟩ : ∃ q, (b.drop a).take (x - a) = q := ⟨_, rfl⟩
          rw [hqq] at hbs hbl hR
          obtain ⟨xa, hxa⟩ : ∃ xa, x - a = xa := ⟨_, rfl⟩
          rw [hxa] at hsl hbl
          have KS : Hid (∀ A c w, WordsAt w A L → Calls Try.prog 37 #[.slice A ml c, .int .i64 (u : Int)] w (OwnRetT (unI (zagL L) u) w)) := hide (fun A c w h => p_listOfR A ml c L u hu3 w h hml hm)
          have hll : (unI (zagL L) u).length = ml := by rw [unI_len, zagL, List.length_map, hml]
          obtain ⟨lst, hlst⟩ : ∃ lst, unI (zagL L) u = lst := ⟨_, rfl⟩
          rw [hlst] at hR hll KS
          obtain ⟨bR, hbR⟩ : ∃ bR, bestR lst = bR := ⟨_, rfl⟩
          obtain ⟨zb, hzb⟩ : ∃ zb, bR.length = zb := ⟨_, rfl⟩
          rw [hbR] at hR
          have KE : Hid (∀ A3 c3 w, TimesAt w A3 lst → Calls Try.prog 10 #[.slice A3 ml c3] w fun e w' => ∃ A4 c4, e = .returned (.tuple #[.slice A4 zb c4, .int .i64 0]) ∧ BytesAt w' A4 bR ∧ Ext w w') := hide (fun A3 c3 w h => (p_encR A3 ml c3 lst w h hll).mono fun e w' h => by
            rw [enR_ok (by omega)] at h
            obtain ⟨A4, c4, rfl, _, _, _, h3, hE⟩ := h.parts
            simp only [hbR] at h3
            exact ⟨A4, c4, by simp only [hbR, hzb]; rfl, h3, hE⟩)
          obtain ⟨y, hy⟩ : ∃ y, decide (bR = q) = y := ⟨_, rfl⟩
          have KQ : Hid (∀ A4 c4 w, Ext W w → BytesAt w A4 bR → Calls Try.prog 38 #[.slice A4 zb c4, .slice A2 xa (cap - a)] w (RetSame (.bool y) w)) := hide (fun A4 c4 w hw h4 => p_equal A4 A2 zb xa c4 (cap - a) bR q w h4 (hbs.ext hw) hzb hbl y hy)
          have HR : Hid ((if y = true then (lst, (x : Int), (0 : Int)) else ([], 0, 5)) = R) := hide (by
            rw [← hR, ← hy]
            by_cases h : bR = q
            · rw [if_pos h, if_pos (decide_eq_true h)]
            · rw [if_neg h, if_neg (by rw [decide_eq_false h]; decide)])
          have Hll := hide hll
          clear hb hc hr hc1 hb1 hu hu2 h0 hR hD hq h1 h2 h3 h4 h5 h6 hbs hbl hA2 hqq hxa hbR hzb hy hml hlst hll
          cases y with
          | true =>
            have HR : Hid ((lst, (x : Int), (0 : Int)) = R) := HR
            go_enter Try.func22, Try.ntmps22
            go_wp2_with (first
              | (go_at_call 36; (with_reducible refine (KD.out).mono ?_); rintro e w1 ⟨A3, c3, rfl, hw, hE⟩; have ks := hide (KS.out A3 c3 w1 hw); have E1 := hide hE; clear hE hw)
              | (go_at_call 37; (with_reducible refine (ks.out).mono ?_); rintro e w5 ⟨v, rfl, ho, hE⟩; have O5 := hide (ho.less E1.out.size); have E5 := hide (Ext.trans E1.out hE); obtain ⟨A5, c5, rfl, _, _, hw5⟩ := ho.at_; rw [Hll.out]; rw [Hll.out] at O5; have ke := hide (KE.out A5 c5 w5 hw5); clear ho hE hw5)
              | (go_at_call 10; (with_reducible refine (ke.out).mono ?_); rintro e w6 ⟨A4, c4, rfl, hb4, hE⟩; have E6 := hide (Ext.trans E5.out hE); have O6 := hide (O5.out.ext hE); have kq := hide (KQ.out A4 c4 w6 E6.out hb4); clear hb4 hE)
              | (go_at_call 38; (with_reducible refine (kq.out).mono ?_); rintro e w7 ⟨rfl, rfl⟩))
            go_ret3
            rw [← HR.out]
            exact ⟨_, rfl, O6.out, E6.out⟩
          | false =>
            have HR : Hid (([], 0, 5) = R) := HR
            go_enter Try.func22, Try.ntmps22
            go_wp2_with (first
              | (go_at_call 36; (with_reducible refine (KD.out).mono ?_); rintro e w1 ⟨A3, c3, rfl, hw, hE⟩; have ks := hide (KS.out A3 c3 w1 hw); have E1 := hide hE; clear hE hw)
              | (go_at_call 37; (with_reducible refine (ks.out).mono ?_); rintro e w5 ⟨v, rfl, ho, hE⟩; have E5 := hide (Ext.trans E1.out hE); obtain ⟨A5, c5, rfl, _, _, hw5⟩ := ho.at_; rw [Hll.out]; have ke := hide (KE.out A5 c5 w5 hw5); clear ho hE hw5)
              | (go_at_call 10; (with_reducible refine (ke.out).mono ?_); rintro e w6 ⟨A4, c4, rfl, hb4, hE⟩; have E6 := hide (Ext.trans E5.out hE); have kq := hide (KQ.out A4 c4 w6 E6.out hb4); clear hb4 hE)
              | (go_at_call 38; (with_reducible refine (kq.out).mono ?_); rintro e w7 ⟨rfl, rfl⟩))
            go_ret3
            rw [← HR.out]
            exact ⟨_, rfl, OwnT.nil_ _ _, E6.out⟩
        · rw [if_pos he] at hR
          subst hR
          have de : (e1 != 0) = true := by rw [bne_iff_ne]; exact he
          clear hb hc hr hc1 hb1 hu hu2 h0 hD hml he
          go_enter Try.func22, Try.ntmps22
          go_wp2_with (go_at_call 36; (with_reducible refine (KD.out).mono ?_); rintro e w1 ⟨A3, c3, rfl, hw, hE⟩; have E1 := hide hE; clear hE hw)
          go_ret3
          exact ⟨_, rfl, OwnT.nil_ _ _, E1.out⟩
end
section
open Go Go.RowKit
theorem t_boolN (B b : Nat) (n : Int) (W w : World) (h1 : 2 ≤ n) (h2 : n ≤ 1000) (hT : TapeOk B w b) (hW : Upd b W w) :
    Calls Try.prog 41 #[.pointer (some ⟨b, 0, none⟩), .int .i64 n] w (BoolPost B b W) := by
  have hn0 : ¬ (n = 0) := by omega
  have hm : (1 : Int).tmod n = 1 := by
    rw [Int.tmod_eq_emod_of_nonneg (by omega)]; exact Int.emod_eq_of_lt (by omega) (by omega)
  have hm2 : (1 : Int) % n = 1 := Int.emod_eq_of_lt (by omega) (by omega)
  have hT' := hT.below (below_drewN' (b + 1) w 1)
  go_enter Try.func41, Try.ntmps41
  go_wp2_with fail
  go_region_with (go_at_call 20; refine (t_next' B b n W _ ⟨by omega, by omega⟩ (by first | exact hT | exact (hT.below (below_drewN' (b + 1) w 1))) (by first | exact hW | exact hW.drew)).mono ?_; rintro e w' ⟨u, rfl, hu, hT2, hB2⟩)
  all_goals go_wp2_with fail
  all_goals go_ret
  all_goals exact ⟨_, rfl, hT2, hB2⟩
def IsS (l : List (Int × Int)) : Prop := ∀ p ∈ l, I64 p.1 ∧ I64 p.2
theorem IsS.nil : IsS [] := by intro x hx; simp at hx
theorem IsS.app {l m : List (Int × Int)} (h : IsS l) (k : IsS m) : IsS (l ++ m) := by
  intro x hx; rcases List.mem_append.1 hx with a | a
  · exact h x a
  · exact k x a
theorem IsS.one {x y : Int} (h : I64 x) (k : I64 y) : IsS [(x, y)] := by intro p hp; simp at hp; subst hp; exact ⟨h, k⟩
theorem IsS.take {l : List (Int × Int)} (h : IsS l) (k : Nat) : IsS (l.take k) := fun x hx => h x (List.mem_of_mem_take hx)
theorem IsS.drop {l : List (Int × Int)} (h : IsS l) (k : Nat) : IsS (l.drop k) := fun x hx => h x (List.mem_of_mem_drop hx)
theorem IsS.get {l : List (Int × Int)} (h : IsS l) (k : Nat) : I64 (l.getD k (0, 0)).1 ∧ I64 (l.getD k (0, 0)).2 := by
  rw [List.getD_eq_getElem?_getD]
  cases hk : l[k]? with
  | none => exact ⟨⟨by simp, by simp⟩, ⟨by simp, by simp⟩⟩
  | some x => exact h x (List.mem_of_getElem? hk)
/-- The cells of samples. -/
def s8s : List (Int × Int) → List Value
  | [] => []
  | p :: l => .int .i64 p.1 :: .int .i64 p.2 :: s8s l
theorem s8s_len : ∀ l : List (Int × Int), (s8s l).length = l.length * 2
  | [] => rfl
  | _ :: l => by simp only [s8s, List.length_cons, s8s_len l]; omega
theorem s8s_one : ∀ l : List (Int × Int), ∀ u ∈ s8s l, u.oneCell' = true
  | [], u, h => by simp [s8s] at h
  | p :: l, u, h => by
    simp only [s8s, List.mem_cons] at h
    rcases h with rfl | rfl | h
    · rfl
    · rfl
    · exact s8s_one l u h
theorem s8s_app : ∀ l m : List (Int × Int), s8s (l ++ m) = s8s l ++ s8s m
  | [], _ => rfl
  | p :: l, m => by simp only [List.cons_append, s8s, s8s_app l m]
theorem s8s_get : ∀ (l : List (Int × Int)) (j : Nat), j < l.length → (s8s l)[2 * j]? = some (.int .i64 (l.getD j (0, 0)).1) ∧ (s8s l)[2 * j + 1]? = some (.int .i64 (l.getD j (0, 0)).2)
  | [], j, h => by simp at h
  | p :: l, 0, _ => by simp [s8s]
  | p :: l, j + 1, h => by
    have := s8s_get l j (by simpa using h)
    rw [show 2 * (j + 1) = 2 * j + 1 + 1 by omega]
    simpa [s8s] using this
/-- At A the samples l lie in memory that is there (whatever A, if there is none). -/
def SampsAt (w : World) (A : Option Addr) (l : List (Int × Int)) : Prop :=
  IsS l ∧ l.length ≤ 9223372036854775807 ∧ (0 < l.length → ∃ b off, A = some ⟨b, off, none⟩ ∧ b < w.heap.size ∧ ∀ j, j < l.length → w.cell? ⟨b, off + 2 * j, none⟩ = some (.int .i64 (l.getD j (0, 0)).1) ∧ w.cell? ⟨b, off + (2 * j + 1), none⟩ = some (.int .i64 (l.getD j (0, 0)).2))
theorem SampsAt.nil (w : World) (A : Option Addr) : SampsAt w A [] := ⟨IsS.nil, by simp, fun h => absurd h (by simp)⟩
theorem SampsAt.ext {w w' : World} {A : Option Addr} {l : List (Int × Int)} (h : SampsAt w A l) (e : Ext w w') : SampsAt w' A l :=
  ⟨h.1, h.2.1, fun hp => by
    obtain ⟨b, off, hA, hb, hc⟩ := h.2.2 hp
    exact ⟨b, off, hA, Nat.lt_of_lt_of_le hb e.size, fun j hj => ⟨(e.cell (p := ⟨b, off + 2 * j, none⟩) hb).trans (hc j hj).1, (e.cell (p := ⟨b, off + (2 * j + 1), none⟩) hb).trans (hc j hj).2⟩⟩⟩
/-- Changes elsewhere. -/
theorem SampsAt.keep {w w' : World} {A : Option Addr} {l : List (Int × Int)} (h : SampsAt w A l) (hs : w.heap.size ≤ w'.heap.size) (e : ∀ b off, A = some ⟨b, off, none⟩ → b < w.heap.size → w'.heap[b]? = w.heap[b]?) : SampsAt w' A l :=
  ⟨h.1, h.2.1, fun hp => by
    obtain ⟨b, off, hA, hb, hc⟩ := h.2.2 hp
    exact ⟨b, off, hA, Nat.lt_of_lt_of_le hb hs, fun j hj => ⟨(World.cell?_of_block (a := ⟨b, off + 2 * j, none⟩) (e b off hA hb)).trans (hc j hj).1, (World.cell?_of_block (a := ⟨b, off + (2 * j + 1), none⟩) (e b off hA hb)).trans (hc j hj).2⟩⟩⟩
theorem info_sm : (Try.prog.info? 57).map (fun i => (i.zero, i.size, i.bytes)) = some (some (.agg #[.int .i64 0, .int .i64 0]), 2, 16) := by kernel_rfl
/-- The slice v owns the samples l: it is nil, or begins at the head of a block from B on. -/
def OwnS (B : Nat) (w : World) (v : Value) (l : List (Int × Int)) : Prop := w.ownsRow B 57 2 v l.length (s8s l) ∧ IsS l
theorem OwnS.at_ {B : Nat} {w : World} {v : Value} {l : List (Int × Int)} (h : OwnS B w v l) : ∃ A cap, v = .slice A l.length cap ∧ l.length ≤ cap ∧ cap ≤ 9223372036854775807 ∧ SampsAt w A l := by
  rcases h.1.2 with ⟨rfl, h0⟩ | ⟨g, cap, cur, rfl, hg, hh, hnc, hcp, hcs, htake⟩
  · obtain rfl : l = [] := List.length_eq_zero_iff.1 h0
    exact ⟨none, 0, rfl, Nat.le_refl _, by omega, SampsAt.nil _ _⟩
  · unfold maxLen at hcp
    have e : ∀ j, (⟨g, 0, none⟩ : Addr).add j = ⟨g, 0 + j, none⟩ := fun j => by unfold Addr.add; split <;> simp_all
    refine ⟨_, cap, rfl, hnc, hcp, h.2, by omega, fun _ => ⟨g, 0, rfl, (Array.getElem?_eq_some_iff.1 hh).1, fun j hj => ?_⟩⟩
    have hs := s8s_get l j hj
    have h1 := h.1.cells (g := g) rfl _ _ hs.1
    have h2 := h.1.cells (g := g) rfl _ _ hs.2
    rw [e] at h1 h2
    exact ⟨h1, h2⟩
theorem OwnS.kept {B : Nat} {w w' : World} {v : Value} {l : List (Int × Int)} (h : OwnS B w v l) {row : Option Nat} (hg : w.grownBy w' row) (hne : v.ownBlock = none ∨ v.ownBlock ≠ row) : OwnS B w' v l := ⟨h.1.kept hg hne, h.2⟩
theorem OwnS.alloc {B : Nat} {w : World} {v : Value} {l : List (Int × Int)} (h : OwnS B w v l) (o : Obj) : OwnS B (w.alloc o) v l := ⟨h.1.alloc o, h.2⟩
theorem OwnS.drew {B : Nat} {w : World} {v : Value} {l : List (Int × Int)} (h : OwnS B w v l) : OwnS B w.drew v l := h
theorem OwnS.nil_ (B : Nat) (w : World) : OwnS B w (.slice none 0 0) [] := ⟨World.ownsRow_nil _ _ _ _, IsS.nil⟩
theorem OwnS.ext {B : Nat} {w w' : World} {v : Value} {l : List (Int × Int)} (h : OwnS B w v l) (e : Ext w w') : OwnS B w' v l := by
  refine ⟨?_, h.2⟩
  obtain ⟨h1, h2 | ⟨g, cap, cur, hv, hg, hh, r⟩⟩ := h.1
  · exact ⟨h1, Or.inl h2⟩
  · exact ⟨h1, Or.inr ⟨g, cap, cur, hv, hg, by rw [e.block g (Array.getElem?_eq_some_iff.1 hh).1]; exact hh, r⟩⟩
theorem OwnS.less {B B' : Nat} {w : World} {v : Value} {l : List (Int × Int)} (h : OwnS B w v l) (hB : B' ≤ B) : OwnS B' w v l := by
  refine ⟨?_, h.2⟩
  obtain ⟨h1, h2 | ⟨g, cap, cur, hv, hg, r⟩⟩ := h.1
  · exact ⟨h1, Or.inl h2⟩
  · exact ⟨h1, Or.inr ⟨g, cap, cur, hv, by omega, r⟩⟩
theorem OwnS.upd {B b : Nat} {w w' : World} {v : Value} {l : List (Int × Int)} (h : OwnS B w v l) (u : Upd b w w') (hb : b < B) : OwnS B w' v l := by
  refine ⟨?_, h.2⟩
  obtain ⟨h1, h2 | ⟨g, cap, cur, hv, hg, hh, r⟩⟩ := h.1
  · exact ⟨h1, Or.inl h2⟩
  · exact ⟨h1, Or.inr ⟨g, cap, cur, hv, hg, by rw [u.2.2.2.2 g (Array.getElem?_eq_some_iff.1 hh).1 (by omega)]; exact hh, r⟩⟩
theorem SampsAt.upd {b : Nat} {w w' : World} {A : Option Addr} {l : List (Int × Int)} (h : SampsAt w A l) (u : Upd b w w') (hb : ∀ g off, A = some ⟨g, off, none⟩ → g ≠ b) : SampsAt w' A l :=
  h.keep u.2.2.2.1 fun g off hA hg => u.2.2.2.2 g hg (hb g off hA)
theorem own_samps {w : World} {A : Option Addr} {c cap B : Nat} {l : List (Int × Int)} (h : OwnS B w (.slice A c cap) l) : SampsAt w A l := by
  obtain ⟨A', cap', he, _, _, hw⟩ := h.at_
  cases he
  exact hw
theorem info_parts2 {i : Option TypeInfo} {z : Value} {a b : Nat} (h : i.map (fun i => (i.zero, i.size, i.bytes)) = some (some z, a, b)) : ∃ x, i = some x ∧ x.zero = some z ∧ x.size = a ∧ x.bytes = b := by
  cases i with
  | none => simp at h
  | some x =>
    simp only [Option.map_some, Option.some.injEq, Prod.mk.injEq] at h
    exact ⟨x, rfl, h.1, h.2.1, h.2.2⟩
theorem run_appendS (B : Nat) (w : World) (ty : TypeId) (v : Value) (l0 l : List (Int × Int)) (hown : OwnS B w v l0) (A : Option Addr) (m c : Nat) (hb : SampsAt w A l) (hm : l.length = m) (hlen : l0.length + l.length ≤ 8796093022208) (hbase : B ≤ w.heap.size) :
    ∃ v' w', (Builtin.append_ #[54, 54] ty #[v, .slice A m c]).run Try.prog w = .ok v' w' ∧ OwnS B w' v' (l0 ++ l) ∧ w.grownBy w' v.ownBlock ∧ (v'.ownBlock = v.ownBlock ∨ v'.ownBlock = some w.heap.size) := by
  subst hm
  obtain ⟨i0, hi0, hz0, hz1, hz2⟩ := info_parts2 info_sm
  have h63 : l0.length + l.length ≤ maxLen := by unfold maxLen; omega
  rcases A with _ | ad
  · have h0 : l = [] := by
      rcases Nat.eq_zero_or_pos l.length with h | h
      · exact List.length_eq_zero_iff.1 h
      · obtain ⟨b, off, h', _⟩ := hb.2.2 h
        cases h'
    subst h0
    refine ⟨v, w, ?_, by rw [List.append_nil]; exact hown, World.grownBy.refl w _, .inl rfl⟩
    rcases hown.1.2 with ⟨rfl, _⟩ | ⟨g, cap, cur, rfl, _, _, hnc, _⟩
    · simp [Builtin.append_, run_underlying Try.underlying54, sizeOf, typeInfo, hi0, Builtin.lenOf, Builtin.firstCells]
    · simp [Builtin.append_, run_underlying Try.underlying54, sizeOf, typeInfo, hi0, Builtin.lenOf, Builtin.firstCells, hnc, storeCells]
  · have hcells : ∀ j u, (s8s l)[j]? = some u → w.cell? (ad.add j) = some u := by
      intro j u hu
      have hj : j < l.length * 2 := by
        rcases Nat.lt_or_ge j (s8s l).length with h | h
        · rwa [s8s_len] at h
        · rw [List.getElem?_eq_none h] at hu; cases hu
      obtain ⟨b, off, h', _, hc⟩ := hb.2.2 (by omega)
      obtain rfl : ad = ⟨b, off, none⟩ := Option.some.inj h'
      have hs := s8s_get l (j / 2) (by omega)
      have hcj := hc (j / 2) (by omega)
      rw [add_at]
      rcases Nat.mod_two_eq_zero_or_one j with h | h
      · have e : 2 * (j / 2) = j := by omega
        rw [e] at hs hcj
        rw [hcj.1, ← hu, hs.1]
      · have e : 2 * (j / 2) + 1 = j := by omega
        rw [e] at hs hcj
        rw [hcj.2, ← hu, hs.2]
    obtain ⟨v', w', hrun, h2, h3, _, h5⟩ := run_append_own_at (P := Try.prog) w B 54 ty 57 i0 _ 2 16 Try.underlying54 hi0 hz0 hz1 hz2 rfl (by omega) v l0.length (s8s l0) hown.1 ad l.length c (s8s l) (s8s_len l) hcells (s8s_one l) h63 (by omega) hbase
    refine ⟨v', w', hrun, ⟨?_, hown.2.app hb.1⟩, h3, h5⟩
    rw [s8s_app, List.length_append]
    exact h2
theorem wl_appendS {ops : Array Oper} {rest : List Oper} {o : Oper} {a : Act} {Q : Exit → Act → World → Prop} {w : World} (hgd : o.guard = none) (s x : Operand)
    (ho : o.op = .call { callee := .builtin .append, args := #[s, x], argTypes := #[54, 54] })
    (B : Nat) (v : Value) (l0 l : List (Int × Int)) (hs : a.eval s = v) (hown : OwnS B w v l0) (A : Option Addr) (m c : Nat) (hx : a.eval x = .slice A m c) (hb : SampsAt w A l) (hm : l.length = m) (hlen : l0.length + l.length ≤ 8796093022208) (hbase : B ≤ w.heap.size)
    (h : ∀ v' w', OwnS B w' v' (l0 ++ l) → w.grownBy w' v.ownBlock → (v'.ownBlock = v.ownBlock ∨ v'.ownBlock = some w.heap.size) → wpList Try.prog ops Q rest (a.put o.dst v') w') : wpList Try.prog ops Q (o :: rest) a w :=
  wpList_plain hgd fun _ hK => by
    obtain ⟨v', w', hrun, h2, h3, h4⟩ := run_appendS B w o.type v l0 l hown A m c hb hm hlen hbase
    unfold Oper.wp execOp
    simp only [ho, resolve, invoke, builtin, Sem.run_bind, Sem.run_pure, Result.andThen_ok, List.map_toArray, List.map_cons, List.map_nil, hs, hx, hrun]
    exact hK _ _ (h v' w' h2 h3 h4)
/-- The element that append lays down first. -/
theorem one_atS (w : World) (x y : Int) (hx : I64 x) (hy : I64 y) : SampsAt (w.alloc (.cells #[.int .i64 x, .int .i64 y] 57)) (some ⟨w.heap.size, 0, none⟩) [(x, y)] := by
  refine ⟨IsS.one hx hy, by simp, fun _ => ⟨w.heap.size, 0, rfl, by simp, fun j hj => ?_⟩⟩
  obtain rfl : j = 0 := by simpa using hj
  exact ⟨by rw [World.cell?_alloc_at _ _ _ _ rfl]; rfl, by rw [World.cell?_alloc_at _ _ _ _ rfl]; rfl⟩
theorem idxS (b off N cap j : Nat) (h : j < N) (w : World) : (Instr.indexAt 54 (.slice (some ⟨b, off, none⟩) N cap) (.int .i64 (j : Int))).run Try.prog w = .ok (.pointer (some ⟨b, off + 2 * j, none⟩)) w := by
  have hz := Try.sizeOf57
  have he : Try.prog.elem 54 = 57 := by kernel_rfl
  have hr := run_indexAt_slice (P := Try.prog) (w := w) 54 ⟨b, off, none⟩ N cap .i64 (j : Int) (by kernel_rfl)
  rw [hr, if_pos ⟨by omega, by omega⟩, he, hz]
  simp [Result.andThen, add_at, Nat.mul_comm]
end
section
open Go Go.RowKit
/-- Increasing times that the tape gives: owned. -/
def TimesPost (N B b : Nat) (W : World) (e : Ending) (w' : World) : Prop := ∃ A n cap l, e = .returned (.slice A n cap) ∧ l.length = n ∧ n ≤ N ∧ n ≤ cap ∧ cap ≤ 9223372036854775807 ∧ incB l = true ∧ OwnT W.heap.size w' (.slice A n cap) l ∧ TapeOk B w' b ∧ Upd b W w'
theorem shr_le {u q k : Nat} (hu : u < 18446744073709551616) (h : k ≤ q) : u >>> q ≤ 18446744073709551615 / 2 ^ k := by
  rw [Nat.shiftRight_eq_div_pow]
  exact Nat.le_trans (Nat.div_le_div_left (Nat.pow_le_pow_right (by omega) h) (Nat.two_pow_pos k)) (Nat.div_le_div_right (by omega))
theorem incB_init {l : List Int} {x : Int} (h : incB (l ++ [x]) = true) : incB l = true := by
  rw [incB_iff] at h ⊢
  intro i hi
  have := h i (by simp; omega)
  rwa [getD_appL [x] (by omega), getD_appL [x] (by omega)] at this
set_option maxHeartbeats 6400000 in
set_option maxRecDepth 100000 in
theorem t_times (N B b : Nat) (hN : N ≤ 1000) (W : World) (hT : TapeOk B W b) : Calls Try.prog 39 #[.pointer (some ⟨b, 0, none⟩), .int .i64 (N : Int)] W (TimesPost N B b W) := by
  have hbW := hT.2.1
  have i5 : I64 5 := ⟨by omega, by omega⟩
  have i50 : I64 50 := ⟨by omega, by omega⟩
  have i9 : I64 9 := ⟨by omega, by omega⟩
  have i3 : I64 3 := ⟨by omega, by omega⟩
  have i56 : I64 56 := ⟨by omega, by omega⟩
  have i8 : I64 8 := ⟨by omega, by omega⟩
  have iN : I64 ((N : Int) + 1) := ⟨by omega, by omega⟩
  have HT := hide hT
  clear hT
  go_enter Try.func39, Try.ntmps39
  go_upto_region 3 with (go_at_call 20; (with_reducible refine (t_next B b 5 _ i5 HT.out).mono ?_); rintro e w1 ⟨s, rfl, hs, T1, u1⟩; obtain ⟨kd, rfl⟩ := Int.eq_ofNat_of_zero_le hs.1; have hkd : kd < 5 := (by have := hs.2.1 (by omega); omega); have T1 := hide T1; have U1 := hide u1; clear hs u1)
  go_upto_region 4 with (go_at_call 40; (with_reducible refine (t_int B b W _ T1.out U1.out).mono ?_); rintro e w2 ⟨at0, rfl, ha, T2, u2⟩; have T2 := hide T2; have U2 := hide u2; clear u2 T1 U1)
  go_upto_region 5 with (go_at_call 20; (with_reducible refine (t_next B b 50 _ i50 T2.out).mono ?_); rintro e w3 ⟨s, rfl, hs, T3, u3⟩; obtain ⟨s0, rfl⟩ := Int.eq_ofNat_of_zero_le hs.1; have hs0 : s0 < 50 := (by have := hs.2.1 (by omega); omega); obtain ⟨st, hst⟩ : ∃ st, 1 + s0 = st := ⟨_, rfl⟩; have es : IntKind.u64.wrap ((1 : Int) + (s0 : Int)) = (st : Int) := (by rw [wrap_u64']; omega); have T3 := hide T3; have U3 := hide (U2.out.trans u3); clear hs u3 T2 U2)
  have hst1 : 1 ≤ st := by omega
  have hst2 : st ≤ 50 := by omega
  clear hst es
  go_upto_region 6 with (go_at_call 20; (with_reducible refine (t_next B b ((N : Int) + 1) _ iN T3.out).mono ?_); rintro e w4 ⟨s, rfl, hs, T4, u4⟩; obtain ⟨i0, rfl⟩ := Int.eq_ofNat_of_zero_le hs.1; have hi0 : i0 ≤ N := (by have := hs.2.1 (by omega); omega); have T4 := hide T4; have U4 := hide (U3.out.trans u4); clear hs u4 T3 U3)
  have HA0 := hide ha
  clear ha HT
  go_wp2_with fail
  go_loopw [5, 7, 9] (fun lv av iv wr => ∃ (i : Nat) (a : Int) (ll : List Int), iv = .int .i64 (i : Int) ∧ av = .int .i64 a ∧ ll.length + i ≤ N ∧ Hid (I64 a) ∧ Hid (incB (ll ++ [a]) = true) ∧ Hid (OwnT W.heap.size wr lv ll) ∧ Hid (TapeOk B wr b) ∧ Hid (Upd b W wr)) (fun _ _ iv _ => (intOf iv).toNat)
  case atStart => exact ⟨i0, at0, [], rfl, rfl, by simp; omega, HA0, hide (by simp [incB]), hide (OwnT.nil_ _ _), T4, U4⟩
  case round =>
    clear T4 U4 HA0
    obtain ⟨i, a, ll, rfl, rfl, hli, HA, HI, HO, HT, HU⟩ := hrel
    by_cases h0 : 0 < i
    · have d0 : decide ((0 : Int) < (i : Int)) = true := decide_eq_true (by omega)
      have O5 := hide (HO.out.alloc (.cells #[Value.int .i64 a] 2))
      have hone := hide (one_atT wr a HA.out _ rfl)
      have T5 := hide (HT.out.alloc (.cells #[Value.int .i64 a] 2))
      have U5 := hide (HU.out.trans (Ext.upd (ext_alloc wr (.cells #[Value.int .i64 a] 2)) b))
      have hsz : W.heap.size ≤ (wr.alloc (.cells #[Value.int .i64 a] 2)).heap.size := U5.out.2.2.2.1
      have hle5 : ll.length + [a].length ≤ 17592186044416 := (by simp; omega)
      clear HO HT HU
      go_upto_region 9 with (at_builtin; refine wl_appendT rfl (.tmp 27) (.tmp 29) rfl W.heap.size _ ll [a] rfl O5.out _ 1 1 rfl hone.out rfl hle5 hsz ?_; intro v6 w6 hO6 hG6 hA6; have hG := O5.out.1.lt; have O6 := hide hO6; have T6 := hide (T5.out.below (grown_below hG6 (b + 1) (by omega) (fun k hk => by have := (hG k hk).1; omega))); have U6 := hide (upd_grown U5.out hG6 (fun k hk => (hG k hk).1)); clear hO6 hG6 hA6 hG O5 T5 U5 hone hsz)
      have hal := HA.out
      unfold I64 at hal
      obtain ⟨mm, hmm⟩ : ∃ mm : Nat, (9223372036854775807 : Int) - a = (mm : Int) := ⟨(9223372036854775807 - a).toNat, by omega⟩
      have em : IntKind.u64.wrap (9223372036854775807 - IntKind.u64.wrap a) = (mm : Int) := by rw [wrap_u64', wrap_u64']; omega
      have KE : Hid (∀ d : Nat, d ≤ mm → wrap64 (IntKind.u64.wrap (IntKind.u64.wrap a + (d : Int))) = a + (d : Int)) := hide (fun d hd => by rw [wrap_u64', wrap_u64']; simp only [wrap64]; omega)
      have KI : Hid (∀ d : Nat, 1 ≤ d → d ≤ mm → I64 (a + (d : Int)) ∧ incB (ll ++ [a] ++ [a + (d : Int)]) = true) := hide (fun d h1 h2 => ⟨⟨by omega, by omega⟩, incB_snoc (i := ll.length) HI.out (by simp) (by rw [getD_end]; omega)⟩)
      have hl2 : (ll ++ [a]).length = ll.length + 1 := by simp
      clear hal hmm hle5
      obtain rfl | rfl | rfl | rfl | rfl : kd = 0 ∨ kd = 1 ∨ kd = 2 ∨ kd = 3 ∨ kd = 4 := by omega
      · go_upto_region 20 with fail
        by_cases hcm : mm < st
        · have dm : decide ((mm : Int) < (st : Int)) = true := decide_eq_true (by omega)
          have dm2 : decide (mm < st) = true := decide_eq_true hcm
          go_wp2_with fail
          go_ret
          obtain ⟨A, cap, hv, h1, h2, h3⟩ := O6.out.at_
          have hO := O6.out
          subst hv
          exact ⟨A, _, cap, ll ++ [a], rfl, rfl, by omega, h1, h2, HI.out, hO, T6.out, U6.out⟩
        · have dm : decide ((mm : Int) < (st : Int)) = false := decide_eq_false (by omega)
          have dm2 : decide (mm < st) = false := decide_eq_false hcm
          have ea := KE.out (st) (by omega)
          obtain ⟨ki, kj⟩ := KI.out (st) (by omega) (by omega)
          obtain ⟨y, hy⟩ : ∃ y, a + ((st : Nat) : Int) = y := ⟨_, rfl⟩
          rw [hy] at ea ki kj
          have ki := hide ki
          have kj := hide kj
          clear hy
          go_wp2_with fail
          go_roundw
          case rel => exact ⟨i - 1, y, ll ++ [a], by go_num, by go_num, by omega, ki, kj, O6, T6, U6⟩
          case measure => simp [intOf]; omega
      · go_upto_region 20 with (go_at_call 20; (with_reducible refine (t_next B b 9 _ i9 T6.out).mono ?_); rintro e w7 ⟨s, rfl, hs, T7, u7⟩; obtain ⟨x, rfl⟩ := Int.eq_ofNat_of_zero_le hs.1; have hx : x < 9 := (by have := hs.2.1 (by omega); omega); obtain ⟨d, hd⟩ : ∃ d, 1 + x = d := ⟨_, rfl⟩; have e1 : IntKind.u64.wrap ((1 : Int) + (x : Int)) = (d : Int) := (by rw [wrap_u64']; omega); have T7 := hide T7; have U7 := hide (U6.out.trans u7); have O7 := hide (O6.out.upd u7 hbW); clear hs u7 T6 U6 O6)
        have hd1 : 1 ≤ d := by omega
        clear e1 hd
        by_cases hcm : mm < d
        · have dm : decide ((mm : Int) < (d : Int)) = true := decide_eq_true (by omega)
          have dm2 : decide (mm < d) = true := decide_eq_true hcm
          go_wp2_with fail
          go_ret
          obtain ⟨A, cap, hv, h1, h2, h3⟩ := O7.out.at_
          have hO := O7.out
          subst hv
          exact ⟨A, _, cap, ll ++ [a], rfl, rfl, by omega, h1, h2, HI.out, hO, T7.out, U7.out⟩
        · have dm : decide ((mm : Int) < (d : Int)) = false := decide_eq_false (by omega)
          have dm2 : decide (mm < d) = false := decide_eq_false hcm
          have ea := KE.out (d) (by omega)
          obtain ⟨ki, kj⟩ := KI.out (d) (by omega) (by omega)
          obtain ⟨y, hy⟩ : ∃ y, a + ((d : Nat) : Int) = y := ⟨_, rfl⟩
          rw [hy] at ea ki kj
          have ki := hide ki
          have kj := hide kj
          clear hy
          go_wp2_with fail
          go_roundw
          case rel => (repeat apply Exists.intro); exact ⟨⟨i - 1, y, ll ++ [a], by go_num, by go_num, by omega, ki, kj, O7, T7, U7⟩, rfl⟩
          case measure => simp [intOf]; omega
      · go_upto_region 20 with (go_at_call 20; (with_reducible refine (t_next B b 3 _ i3 T6.out).mono ?_); rintro e w7 ⟨s, rfl, hs, T7, u7⟩; obtain ⟨x, rfl⟩ := Int.eq_ofNat_of_zero_le hs.1; have hx : x < 3 := (by have := hs.2.1 (by omega); omega); have e0 : IntKind.u64.wrap (x : Int) = (x : Int) := (by rw [wrap_u64']; omega); obtain ⟨d, hd⟩ : ∃ d, st + x = d := ⟨_, rfl⟩; have e1 : IntKind.u64.wrap ((st : Int) + (x : Int)) = (d : Int) := (by rw [wrap_u64']; omega); have T7 := hide T7; have U7 := hide (U6.out.trans u7); have O7 := hide (O6.out.upd u7 hbW); clear hs u7 T6 U6 O6)
        have hd1 : 1 ≤ d := by omega
        clear e0 e1 hd
        by_cases hcm : mm < d
        · have dm : decide ((mm : Int) < (d : Int)) = true := decide_eq_true (by omega)
          have dm2 : decide (mm < d) = true := decide_eq_true hcm
          go_wp2_with fail
          go_ret
          obtain ⟨A, cap, hv, h1, h2, h3⟩ := O7.out.at_
          have hO := O7.out
          subst hv
          exact ⟨A, _, cap, ll ++ [a], rfl, rfl, by omega, h1, h2, HI.out, hO, T7.out, U7.out⟩
        · have dm : decide ((mm : Int) < (d : Int)) = false := decide_eq_false (by omega)
          have dm2 : decide (mm < d) = false := decide_eq_false hcm
          have ea := KE.out (d) (by omega)
          obtain ⟨ki, kj⟩ := KI.out (d) (by omega) (by omega)
          obtain ⟨y, hy⟩ : ∃ y, a + ((d : Nat) : Int) = y := ⟨_, rfl⟩
          rw [hy] at ea ki kj
          have ki := hide ki
          have kj := hide kj
          clear hy
          go_wp2_with fail
          go_roundw
          case rel => (repeat apply Exists.intro); exact ⟨⟨i - 1, y, ll ++ [a], by go_num, by go_num, by omega, ki, kj, O7, T7, U7⟩, rfl⟩
          case measure => simp [intOf]; omega
      · go_upto_region 20 with (first | (go_at_call 54; (with_reducible refine (t_word B b _ T6.out).mono ?_); rintro e w7 ⟨u, rfl, hu, T7, u7⟩; obtain ⟨xw, rfl⟩ := Int.eq_ofNat_of_zero_le hu.1; have hxw : xw < 18446744073709551616 := (by have := hu.2; omega); have T7 := hide T7; have U7 := hide (U6.out.trans u7); have O7 := hide (O6.out.upd u7 hbW); clear hu u7 T6 U6 O6) | (go_at_call 20; (with_reducible refine (t_next B b 56 _ i56 T7.out).mono ?_); rintro e w8 ⟨s, rfl, hs, T8, u8⟩; obtain ⟨x, rfl⟩ := Int.eq_ofNat_of_zero_le hs.1; have hx : x < 56 := (by have := hs.2.1 (by omega); omega); obtain ⟨q, hq⟩ : ∃ q : Nat, 4 + x = q := ⟨_, rfl⟩; have eq1 : (4 : Int) + (x : Int) = (q : Int) := (by omega); have hr := shr_le (q := q) (k := 4) hxw (by omega); have e1 := shr_cast xw q; obtain ⟨r, hrr⟩ : ∃ r, xw >>> q = r := ⟨_, rfl⟩; rw [hrr] at e1 hr; have hr2 : r ≤ 9223372036854775807 := (Nat.le_trans hr (by decide)); obtain ⟨d, hd⟩ : ∃ d, 1 + r = d := ⟨_, rfl⟩; have e2 : IntKind.u64.wrap ((1 : Int) + (r : Int)) = (d : Int) := (by rw [wrap_u64']; omega); have hq2 : q ≤ 64 := (by omega); clear hq hr hrr; have T8 := hide T8; have U8 := hide (U7.out.trans u8); have O8 := hide (O7.out.upd u8 hbW); clear hs u8 T7 U7 O7))
        have hd1 : 1 ≤ d := by omega
        clear e1 e2 eq1 hd
        by_cases hcm : mm < d
        · have dm : decide ((mm : Int) < (d : Int)) = true := decide_eq_true (by omega)
          have dm2 : decide (mm < d) = true := decide_eq_true hcm
          go_wp2_with fail
          go_ret
          obtain ⟨A, cap, hv, h1, h2, h3⟩ := O8.out.at_
          have hO := O8.out
          subst hv
          exact ⟨A, _, cap, ll ++ [a], rfl, rfl, by omega, h1, h2, HI.out, hO, T8.out, U8.out⟩
        · have dm : decide ((mm : Int) < (d : Int)) = false := decide_eq_false (by omega)
          have dm2 : decide (mm < d) = false := decide_eq_false hcm
          have ea := KE.out (d) (by omega)
          obtain ⟨ki, kj⟩ := KI.out (d) (by omega) (by omega)
          obtain ⟨y, hy⟩ : ∃ y, a + ((d : Nat) : Int) = y := ⟨_, rfl⟩
          rw [hy] at ea ki kj
          have ki := hide ki
          have kj := hide kj
          clear hy
          go_wp2_with fail
          go_roundw
          case rel => (repeat apply Exists.intro); exact ⟨⟨i - 1, y, ll ++ [a], by go_num, by go_num, by omega, ki, kj, O8, T8, U8⟩, rfl⟩
          case measure => simp [intOf]; omega
      · go_upto_if 59 with (go_at_call 41; (with_reducible refine (t_bool B b 4 _ _ (by omega) (by omega) T6.out (Upd.refl _ _)).mono ?_); rintro e w7 ⟨v, rfl, T7, u7⟩; have T7 := hide T7; have U7 := hide (U6.out.trans u7); have O7 := hide (O6.out.upd u7 hbW); clear u7 T6 U6 O6)
        cases v with
        | false =>
          go_upto_region 20 with fail
          by_cases hcm : mm < st
          · have dm : decide ((mm : Int) < (st : Int)) = true := decide_eq_true (by omega)
            have dm2 : decide (mm < st) = true := decide_eq_true hcm
            go_wp2_with fail
            go_ret
            obtain ⟨A, cap, hv, h1, h2, h3⟩ := O7.out.at_
            have hO := O7.out
            subst hv
            exact ⟨A, _, cap, ll ++ [a], rfl, rfl, by omega, h1, h2, HI.out, hO, T7.out, U7.out⟩
          · have dm : decide ((mm : Int) < (st : Int)) = false := decide_eq_false (by omega)
            have dm2 : decide (mm < st) = false := decide_eq_false hcm
            have ea := KE.out (st) (by omega)
            obtain ⟨ki, kj⟩ := KI.out (st) (by omega) (by omega)
            obtain ⟨y, hy⟩ : ∃ y, a + ((st : Nat) : Int) = y := ⟨_, rfl⟩
            rw [hy] at ea ki kj
            have ki := hide ki
            have kj := hide kj
            clear hy
            go_wp2_with fail
            go_roundw
            case rel => (repeat apply Exists.intro); exact ⟨⟨i - 1, y, ll ++ [a], by go_num, by go_num, by omega, ki, kj, O7, T7, U7⟩, rfl⟩
            case measure => simp [intOf]; omega
        | true =>
          go_upto_region 20 with (first | (go_at_call 54; (with_reducible refine (t_word B b _ T7.out).mono ?_); rintro e w8 ⟨u, rfl, hu, T8, u8⟩; obtain ⟨xw, rfl⟩ := Int.eq_ofNat_of_zero_le hu.1; have hxw : xw < 18446744073709551616 := (by have := hu.2; omega); have T8 := hide T8; have U8 := hide (U7.out.trans u8); have O8 := hide (O7.out.upd u8 hbW); clear hu u8 T7 U7 O7) | (go_at_call 20; (with_reducible refine (t_next B b 8 _ i8 T8.out).mono ?_); rintro e w9 ⟨s, rfl, hs, T9, u9⟩; obtain ⟨x, rfl⟩ := Int.eq_ofNat_of_zero_le hs.1; have hx : x < 8 := (by have := hs.2.1 (by omega); omega); obtain ⟨q, hq⟩ : ∃ q : Nat, 1 + x = q := ⟨_, rfl⟩; have eq1 : (1 : Int) + (x : Int) = (q : Int) := (by omega); have hr := shr_le (q := q) (k := 1) hxw (by omega); have e1 := shr_cast xw q; obtain ⟨r, hrr⟩ : ∃ r, xw >>> q = r := ⟨_, rfl⟩; rw [hrr] at e1 hr; have hr2 : r ≤ 9223372036854775807 := (Nat.le_trans hr (by decide)); obtain ⟨d, hd⟩ : ∃ d, 1 + r = d := ⟨_, rfl⟩; have e2 : IntKind.u64.wrap ((1 : Int) + (r : Int)) = (d : Int) := (by rw [wrap_u64']; omega); have hq2 : q ≤ 64 := (by omega); clear hq hr hrr; have T9 := hide T9; have U9 := hide (U8.out.trans u9); have O9 := hide (O8.out.upd u9 hbW); clear hs u9 T8 U8 O8))
          have hd1 : 1 ≤ d := by omega
          clear e1 e2 eq1 hd
          by_cases hcm : mm < d
          · have dm : decide ((mm : Int) < (d : Int)) = true := decide_eq_true (by omega)
            have dm2 : decide (mm < d) = true := decide_eq_true hcm
            go_wp2_with fail
            go_ret
            obtain ⟨A, cap, hv, h1, h2, h3⟩ := O9.out.at_
            have hO := O9.out
            subst hv
            exact ⟨A, _, cap, ll ++ [a], rfl, rfl, by omega, h1, h2, HI.out, hO, T9.out, U9.out⟩
          · have dm : decide ((mm : Int) < (d : Int)) = false := decide_eq_false (by omega)
            have dm2 : decide (mm < d) = false := decide_eq_false hcm
            have ea := KE.out (d) (by omega)
            obtain ⟨ki, kj⟩ := KI.out (d) (by omega) (by omega)
            obtain ⟨y, hy⟩ : ∃ y, a + ((d : Nat) : Int) = y := ⟨_, rfl⟩
            rw [hy] at ea ki kj
            have ki := hide ki
            have kj := hide kj
            clear hy
            go_wp2_with fail
            go_roundw
            case rel => (repeat apply Exists.intro); exact ⟨⟨i - 1, y, ll ++ [a], by go_num, by go_num, by omega, ki, kj, O9, T9, U9⟩, rfl⟩
            case measure => simp [intOf]; omega
    · have d0 : decide ((0 : Int) < (i : Int)) = false := decide_eq_false (by omega)
      go_wp2_with fail
      go_ret
      obtain ⟨A, cap, hv, h1, h2, h3⟩ := HO.out.at_
      have hO := HO.out
      subst hv
      exact ⟨A, _, cap, ll, rfl, rfl, by omega, h1, h2, incB_init HI.out, hO, HT.out, HU.out⟩
theorem takeT_eq_succ {l m : List Int} {k : Nat} (h1 : k < l.length) (h2 : k < m.length) (h : l.take k = m.take k) : (l.take (k + 1) = m.take (k + 1)) ↔ l.getD k 0 = m.getD k 0 := by
  rw [takeT_succ h1, takeT_succ h2, h]
  simp
set_option maxRecDepth 100000 in
theorem t_same_ne (A A' : Option Addr) (n n' c c' : Nat) (W : World) (h : n ≠ n') (h1 : n ≤ 9223372036854775807) (h2 : n' ≤ 9223372036854775807) : Calls Try.prog 23 #[.slice A n c, .slice A' n' c'] W (Ret (.bool false) W) := by
  have hb : ((n : Int) != (n' : Int)) = true := by rw [bne_iff_ne]; omega
  have hb' : ¬ ((n : Int) = (n' : Int)) := by omega
  go_enter Try.func23, Try.ntmps23
  go_wp2_with fail
  go_ret
  exact ⟨rfl, Ext.refl _⟩
set_option maxHeartbeats 800000 in
set_option maxRecDepth 100000 in
theorem t_same_eq (A A' : Option Addr) (n c c' : Nat) (l m : List Int) (W : World) (hl : TimesAt W A l) (hm : TimesAt W A' m) (hn : l.length = n) (hn' : m.length = n) (v : Bool) (hv : decide (l = m) = v) :
    Calls Try.prog 23 #[.slice A n c, .slice A' n c'] W (Ret (.bool v) W) := by
  have hlen := hl.2.1
  rw [hn] at hlen
  have HL := hide hl
  have HM := hide hm
  have Hn := hide hn
  have Hn' := hide hn'
  have Hv := hide hv
  have hb : ((n : Int) != (n : Int)) = false := by simp
  clear hl hm hn hn' hv
  go_enter Try.func23, Try.ntmps23
  go_wp2_with fail
  go_loopw [5] (fun i wr => ∃ k : Nat, k ≤ n ∧ i = .int .i64 k ∧ Hid (Ext W wr) ∧ Hid (l.take k = m.take k)) (fun i _ => n - (intOf i).toNat)
  case atStart => exact ⟨0, by omega, rfl, hide (Ext.refl _), hide (by simp)⟩
  case round =>
    obtain ⟨k, hk, rfl, E, T⟩ := hrel
    by_cases hlt : k < n
    · have hkl : k < l.length := by rw [Hn.out]; exact hlt
      have hkm : k < m.length := by rw [Hn'.out]; exact hlt
      obtain ⟨b, off, rfl, hb1, hc1⟩ := (HL.out.ext E.out).2.2 (by omega)
      obtain ⟨b', off', rfl, hb2, hc2⟩ := (HM.out.ext E.out).2.2 (by omega)
      have d1 := hc1 k hkl
      have d2 := hc2 k hkm
      have hs := hide (takeT_eq_succ hkl hkm T.out)
      have hne : Hid (l.getD k 0 ≠ m.getD k 0 → l ≠ m) := fun h e => h (by rw [e])
      obtain ⟨x, hx⟩ : ∃ x, l.getD k 0 = x := ⟨_, rfl⟩
      obtain ⟨y, hy⟩ : ∃ y, m.getD k 0 = y := ⟨_, rfl⟩
      rw [hx] at d1 hs hne
      rw [hy] at d2 hs hne
      clear hc1 hc2 hx hy hkl hkm hb1 hb2
      by_cases hxy : x = y
      · have q : (x != y) = false := by subst hxy; simp
        have Hxy := hide hxy
        clear hxy
        go_wp2_with fail
        go_quiet (fail)
        go_wp2_with fail
        go_roundw
        case rel => exact ⟨k + 1, by omega, by go_num, hide (E.out.trans (ext_drewN _ _)), hide (hs.out.2 Hxy.out)⟩
        case measure => simp [intOf]; omega
      · have q : (x != y) = true := by rw [bne_iff_ne]; exact hxy
        go_wp2_with fail
        go_quiet (fail)
        go_wp2_with fail
        go_ret
        refine ⟨?_, E.out.trans (ext_drewN _ _)⟩
        have := hne.out hxy
        rw [← Hv.out, decide_eq_false this]
        rfl
    · obtain rfl : k = n := by omega
      go_wp2_with fail
      go_ret
      refine ⟨?_, E.out⟩
      have e : l = m := by
        have := T.out
        rw [List.take_of_length_le (by have := Hn.out; omega), List.take_of_length_le (by have := Hn'.out; omega)] at this
        exact this
      rw [← Hv.out, decide_eq_true e]
      rfl
theorem t_same (A A' : Option Addr) (n n' c c' : Nat) (l m : List Int) (W : World) (hl : TimesAt W A l) (hm : TimesAt W A' m) (hn : l.length = n) (hn' : m.length = n') (v : Bool) (hv : decide (l = m) = v) :
    Calls Try.prog 23 #[.slice A n c, .slice A' n' c'] W (Ret (.bool v) W) := by
  by_cases h : n = n'
  · subst h
    exact t_same_eq A A' n c c' l m W hl hm hn hn' v hv
  · have e : v = false := by
      rw [← hv, decide_eq_false]
      intro e; subst e; omega
    subst e
    exact t_same_ne A A' n n' c c' W h (by have := hl.2.1; omega) (by have := hm.2.1; omega)
/-- What is kept through a law: the tape, and a list of times that it gave. -/
structure Bt (W : World) (B : Nat) (A : Option Addr) (n cap : Nat) (m : List Int) (w : World) : Prop where
  e : Ext W w
  t : TapeOk W.heap.size w W.heap.size
  o : OwnT B w (.slice A n cap) m
  gb : W.heap.size < B
section
variable {W : World} {B : Nat} {A : Option Addr} {n cap : Nat} {m : List Int} {w w' : World}
theorem Bt.ext (s : Bt W B A n cap m w) (k : Ext w w') : Bt W B A n cap m w' := ⟨s.e.trans k, s.t.ext k, s.o.ext k, s.gb⟩
theorem Bt.upd (s : Bt W B A n cap m w) (u : Upd W.heap.size w w') (t : TapeOk W.heap.size w' W.heap.size) : Bt W B A n cap m w' := ⟨Upd.ext u s.e (Nat.le_refl _), t, s.o.upd u s.gb, s.gb⟩
theorem Bt.times (s : Bt W B A n cap m w) : TimesAt w A m := own_times s.o
theorem Bt.of {w1 : World} (h1 : Ext W w1) (hT : TapeOk W.heap.size w1 W.heap.size) (o : OwnT w1.heap.size w (.slice A n cap) m) (t : TapeOk W.heap.size w W.heap.size) (u : Upd W.heap.size w1 w) : Bt W w1.heap.size A n cap m w := ⟨Upd.ext u h1 (Nat.le_refl _), t, o, hT.2.1⟩
end
end
section
open Go Go.RowKit
theorem wr64 (x : Int) : ∃ p, wrap64 x = p ∧ IntKind.i64.wrap x = p ∧ I64 p := ⟨wrap64 x, rfl, by rw [IntKind.wrap_i64]; simp only [wrap64], i64_wrap x⟩
theorem TimesAt.cell {w : World} {b off : Nat} {l : List Int} (h : TimesAt w (some ⟨b, off, none⟩) l) {j : Nat} (hj : j < l.length) : w.cell? ⟨b, off + j, none⟩ = some (.int .i64 (l.getD j 0)) := by
  obtain ⟨b', off', he, _, hc⟩ := h.2.2 (by omega)
  cases he
  exact hc j hj
/-- Samples that the tape gives: owned; their times increase. -/
def SampsPost (N B b : Nat) (W : World) (e : Ending) (w' : World) : Prop := ∃ A n cap l, e = .returned (.slice A n cap) ∧ l.length = n ∧ n ≤ N ∧ n ≤ cap ∧ cap ≤ 9223372036854775807 ∧ incB (l.map Prod.fst) = true ∧ OwnS W.heap.size w' (.slice A n cap) l ∧ TapeOk B w' b ∧ Upd b W w'
/-- What is kept while samples are appended: the tape, the samples, the times. -/
structure Sg (W : World) (B b B1 : Nat) (Am : Option Addr) (n cap : Nat) (m : List Int) (lv : Value) (ll : List (Int × Int)) (w : World) : Prop where
  t : TapeOk B w b
  u : Upd b W w
  s : OwnS B1 w lv ll
  o : OwnT W.heap.size w (.slice Am n cap) m
  bw : B1 ≤ w.heap.size
section
variable {W : World} {B b B1 : Nat} {Am : Option Addr} {n cap : Nat} {m : List Int} {lv : Value} {ll : List (Int × Int)} {w w' : World}
theorem Sg.upd (h : Sg W B b B1 Am n cap m lv ll w) (hb : b < W.heap.size) (hB : W.heap.size ≤ B1) (u : Upd b w w') (t : TapeOk B w' b) : Sg W B b B1 Am n cap m lv ll w' :=
  ⟨t, h.u.trans u, h.s.upd u (Nat.lt_of_lt_of_le hb hB), h.o.upd u hb, Nat.le_trans h.bw u.2.2.2.1⟩
theorem Sg.alloc (h : Sg W B b B1 Am n cap m lv ll w) (o : Obj) : Sg W B b B1 Am n cap m lv ll (w.alloc o) :=
  ⟨h.t.alloc o, h.u.trans (Ext.upd (ext_alloc w o) b), h.s.alloc o, h.o.alloc o, Nat.le_trans h.bw (by simp)⟩
theorem Sg.grow (h : Sg W B b B1 Am n cap m lv ll w) (hb : b < W.heap.size) (hB : W.heap.size ≤ B1) (hq : (Value.slice Am n cap).ownBlock = none ∨ (Value.slice Am n cap).ownBlock ≠ lv.ownBlock) {v' : Value} {l' : List (Int × Int)} (hO : OwnS B1 w' v' l') (hG : w.grownBy w' lv.ownBlock) : Sg W B b B1 Am n cap m v' l' w' :=
  ⟨h.t.below (grown_below hG (b + 1) (Nat.lt_of_lt_of_le hb h.u.2.2.2.1) (fun k hk => by have := (h.s.1.lt k hk).1; omega)), upd_grown h.u hG (fun k hk => Nat.le_trans hB (h.s.1.lt k hk).1), hO, h.o.kept hG hq, Nat.le_trans h.bw (grown_below hG 0 (Nat.zero_le _) (fun _ _ => Nat.zero_le _)).size⟩
end
set_option maxHeartbeats 6400000 in
set_option maxRecDepth 100000 in
theorem t_samples (N B b : Nat) (hN : N ≤ 1000) (W : World) (hT : TapeOk B W b) : Calls Try.prog 24 #[.pointer (some ⟨b, 0, none⟩), .int .i64 (N : Int)] W (SampsPost N B b W) := by
  have hbW := hT.2.1
  have i7 : I64 7 := ⟨by omega, by omega⟩
  have i41 : I64 41 := ⟨by omega, by omega⟩
  have i9 : I64 9 := ⟨by omega, by omega⟩
  have i3 : I64 3 := ⟨by omega, by omega⟩
  have i400 : I64 400 := ⟨by omega, by omega⟩
  have i50 : I64 50 := ⟨by omega, by omega⟩
  have KT := hide (t_times N B b hN W hT)
  clear hT
  go_enter Try.func24, Try.ntmps24
  go_upto_region 2 with (go_at_call 39; (with_reducible refine (KT.out).mono ?_); rintro e w1 ⟨Am, n, cap, m, rfl, hm, hnN, hncap, hncap2, hinc, hO, T1, u1⟩; have T1 := hide T1; have U1 := hide u1; have O1 := hide hO; have Hm := hide hm; have Hinc := hide hinc; clear hO hm hinc u1)
  have hB1 : W.heap.size ≤ w1.heap.size := U1.out.2.2.2.1
  obtain ⟨B1, hBB⟩ : ∃ B1, w1.heap.size = B1 := ⟨_, rfl⟩
  have HQ : Hid (∀ w lv ll, OwnS B1 w lv ll → (Value.slice Am n cap).ownBlock = none ∨ (Value.slice Am n cap).ownBlock ≠ lv.ownBlock) := hide (fun w lv ll ho => by
    cases Am with
    | none => exact Or.inl rfl
    | some a =>
      right
      intro e
      have h1 := O1.out.1.lt a.block rfl
      have h2 := ho.1.lt a.block (by rw [← e]; rfl)
      omega)
  have S1 : Hid (Sg W B b B1 Am n cap m (.slice none 0 0) [] w1) := hide ⟨T1.out, U1.out, OwnS.nil_ _ _, O1.out, by omega⟩
  rw [hBB] at hB1
  clear hBB T1 U1 O1 KT
  go_upto_region 4 with (go_at_call 20; (with_reducible refine (t_next B b 7 _ i7 S1.out.t).mono ?_); rintro e w2 ⟨s, rfl, hs, T2, u2⟩; obtain ⟨kd, rfl⟩ := Int.eq_ofNat_of_zero_le hs.1; have hkd : kd < 7 := (by have := hs.2.1 (by omega); omega); have S2 := hide (S1.out.upd hbW hB1 u2 T2); clear hs u2 T2 S1)
  go_upto_region 5 with (first
    | (go_at_call 40; (with_reducible refine (t_int B b _ _ S2.out.t (Upd.refl _ _)).mono ?_); rintro e w3 ⟨v0, rfl, hv0, T3, u3⟩; have S3 := hide (S2.out.upd hbW hB1 u3 T3); have Hv0 := hide hv0; clear u3 T3 S2 hv0)
    | (go_at_call 20; (with_reducible refine (t_next B b 41 _ i41 S3.out.t).mono ?_); rintro e w4 ⟨s, rfl, hs, T4, u4⟩; have hs0 := hs.1; have hs1 := hs.2.1 (by omega); have S4 := hide (S3.out.upd hbW hB1 u4 T4); obtain ⟨sl, hsl⟩ : ∃ sl, s - 20 = sl := ⟨_, rfl⟩; clear hs u4 T4 S3))
  clear hs0 hs1 hsl
  go_wp2_with fail
  go_loopw [6, 8, 10] (fun lv av iv wr => ∃ (i : Nat) (vv : Int) (ll : List (Int × Int)), i ≤ n ∧ iv = .int .i64 (i : Int) ∧ av = .int .i64 vv ∧ Hid (I64 vv) ∧ Hid (ll.map Prod.fst = m.take i) ∧ Hid (Sg W B b B1 Am n cap m lv ll wr)) (fun _ _ iv _ => n - (intOf iv).toNat)
  case atStart => exact ⟨0, v0, [], by omega, rfl, rfl, Hv0, hide (by simp), S4⟩
  case round =>
    clear S4 Hv0
    obtain ⟨i, vv, ll, hi, rfl, rfl, HV, HL, S5⟩ := hrel
    by_cases h0 : i < n
    · have d0 : decide ((i : Int) < (n : Int)) = true := decide_eq_true (by omega)
      have him : i < m.length := by rw [Hm.out]; exact h0
      obtain ⟨bm, om, rfl, _, _⟩ := (own_times S5.out.o).2.2 (by omega)
      obtain ⟨tt, htt⟩ : ∃ tt, m.getD i 0 = tt := ⟨_, rfl⟩
      have itt : I64 tt := by rw [← htt]; exact S5.out.o.2.get i
      have KC : Hid (∀ w v l', Sg W B b B1 (some ⟨bm, om, none⟩) n cap m v l' w → w.cell? ⟨bm, om + i, none⟩ = some (.int .i64 tt)) := hide (fun w v l' s => by rw [← htt]; exact (own_times s.o).cell him)
      have ix := fun w => idxT bm om n cap i h0 w
      have HL2 : Hid (∀ X, (ll ++ [(tt, X)]).map Prod.fst = m.take (i + 1)) := hide (fun X => by rw [List.map_append, HL.out, takeT_succ him, htt]; rfl)
      have hll : ll.length = i := by
        have := congrArg List.length HL.out
        rw [List.length_map, List.length_take] at this
        omega
      have hle5 : Hid (∀ X : Int, ll.length + [(tt, X)].length ≤ 8796093022208) := hide (fun X => by simp; omega)
      have iv := HV.out
      clear htt him hll HL
      obtain rfl | rfl | rfl | rfl | rfl | rfl | rfl : kd = 0 ∨ kd = 1 ∨ kd = 2 ∨ kd = 3 ∨ kd = 4 ∨ kd = 5 ∨ kd = 6 := by omega
      · go_upto_region 24 with fail
        have ivv := iv
        have Hvv := hide iv
        have S20 := hide (S5.out.alloc (.cells #[.int .i64 tt, .int .i64 vv] 57))
        have ct0 := KC.out _ _ _ S5.out
        have ct := KC.out _ _ _ S20.out
        have hone := hide (one_atS wr tt vv itt ivv)
        have hsz := S20.out.bw
        clear S5
        go_wp2_with (at_builtin; refine wl_appendS rfl (.tmp 81) (.tmp 88) rfl B1 _ ll [(tt, vv)] rfl S20.out.s _ 1 1 rfl hone.out rfl (hle5.out vv) hsz ?_; intro v21 w21 hO21 hG21 hA21; have S21 := hide (S20.out.grow hbW hB1 (HQ.out _ _ _ S20.out.s) hO21 hG21); clear hO21 hG21 hA21)
        go_roundw
        case rel => (repeat apply Exists.intro); exact ⟨⟨i + 1, vv, ll ++ [(tt, vv)], by omega, by go_num, by go_num, Hvv, HL2.out vv, S21⟩, rfl⟩
        case measure => simp [intOf]; omega
      · have Hvv := hide iv
        obtain ⟨p, p1, p2, ip⟩ := wr64 ((i : Int) * sl)
        obtain ⟨X, X1, X2, iX⟩ := wr64 (vv + p)
        go_upto_region 24 with fail
        have S20 := hide (S5.out.alloc (.cells #[.int .i64 tt, .int .i64 X] 57))
        have ct0 := KC.out _ _ _ S5.out
        have ct := KC.out _ _ _ S20.out
        have hone := hide (one_atS wr tt X itt iX)
        have hsz := S20.out.bw
        clear S5
        go_wp2_with (at_builtin; refine wl_appendS rfl (.tmp 81) (.tmp 88) rfl B1 _ ll [(tt, X)] rfl S20.out.s _ 1 1 rfl hone.out rfl (hle5.out X) hsz ?_; intro v21 w21 hO21 hG21 hA21; have S21 := hide (S20.out.grow hbW hB1 (HQ.out _ _ _ S20.out.s) hO21 hG21); clear hO21 hG21 hA21)
        go_roundw
        case rel => (repeat apply Exists.intro); exact ⟨⟨i + 1, vv, ll ++ [(tt, X)], by omega, by go_num, by go_num, Hvv, HL2.out X, S21⟩, rfl⟩
        case measure => simp [intOf]; omega
      · have Hvv := hide iv
        obtain ⟨p, p1, p2, ip⟩ := wr64 ((i : Int) * sl)
        obtain ⟨q, q1, q2, iq⟩ := wr64 (vv + p)
        go_upto_region 24 with (go_at_call 20; (with_reducible refine (t_next B b 7 _ i7 S5.out.t).mono ?_); rintro e w6 ⟨s, rfl, hs, T, u⟩; obtain ⟨y, rfl⟩ := Int.eq_ofNat_of_zero_le hs.1; have hy : y < 7 := (by have := hs.2.1 (by omega); omega); have S6 := hide (S5.out.upd hbW hB1 u T); obtain ⟨X, X1, X2, iX⟩ := wr64 (q + ((y : Int) - 3)); clear hs u T S5)
        have S20 := hide (S6.out.alloc (.cells #[.int .i64 tt, .int .i64 X] 57))
        have ct0 := KC.out _ _ _ S6.out
        have ct := KC.out _ _ _ S20.out
        have hone := hide (one_atS w6 tt X itt iX)
        have hsz := S20.out.bw
        clear S6
        go_wp2_with (at_builtin; refine wl_appendS rfl (.tmp 81) (.tmp 88) rfl B1 _ ll [(tt, X)] rfl S20.out.s _ 1 1 rfl hone.out rfl (hle5.out X) hsz ?_; intro v21 w21 hO21 hG21 hA21; have S21 := hide (S20.out.grow hbW hB1 (HQ.out _ _ _ S20.out.s) hO21 hG21); clear hO21 hG21 hA21)
        go_roundw
        case rel => (repeat apply Exists.intro); exact ⟨⟨i + 1, vv, ll ++ [(tt, X)], by omega, by go_num, by go_num, Hvv, HL2.out X, S21⟩, rfl⟩
        case measure => simp [intOf]; omega
      · have Hvv := hide iv
        go_upto_region 24 with (go_at_call 20; (with_reducible refine (t_next B b 9 _ i9 S5.out.t).mono ?_); rintro e w6 ⟨s, rfl, hs, T, u⟩; obtain ⟨y, rfl⟩ := Int.eq_ofNat_of_zero_le hs.1; have hy : y < 9 := (by have := hs.2.1 (by omega); omega); have S6 := hide (S5.out.upd hbW hB1 u T); obtain ⟨X, X1, X2, iX⟩ := wr64 (vv + ((y : Int) - 4)); clear hs u T S5)
        have S20 := hide (S6.out.alloc (.cells #[.int .i64 tt, .int .i64 X] 57))
        have ct0 := KC.out _ _ _ S6.out
        have ct := KC.out _ _ _ S20.out
        have hone := hide (one_atS w6 tt X itt iX)
        have hsz := S20.out.bw
        clear S6
        go_wp2_with (at_builtin; refine wl_appendS rfl (.tmp 81) (.tmp 88) rfl B1 _ ll [(tt, X)] rfl S20.out.s _ 1 1 rfl hone.out rfl (hle5.out X) hsz ?_; intro v21 w21 hO21 hG21 hA21; have S21 := hide (S20.out.grow hbW hB1 (HQ.out _ _ _ S20.out.s) hO21 hG21); clear hO21 hG21 hA21)
        go_roundw
        case rel => (repeat apply Exists.intro); exact ⟨⟨i + 1, vv, ll ++ [(tt, X)], by omega, by go_num, by go_num, Hvv, HL2.out X, S21⟩, rfl⟩
        case measure => simp [intOf]; omega
      · have Hvv := hide iv
        go_upto_region 24 with (go_at_call 40; (with_reducible refine (t_int B b _ _ S5.out.t (Upd.refl _ _)).mono ?_); rintro e w6 ⟨X, rfl, iX, T, u⟩; have S6 := hide (S5.out.upd hbW hB1 u T); clear u T S5)
        have S20 := hide (S6.out.alloc (.cells #[.int .i64 tt, .int .i64 X] 57))
        have ct0 := KC.out _ _ _ S6.out
        have ct := KC.out _ _ _ S20.out
        have hone := hide (one_atS w6 tt X itt iX)
        have hsz := S20.out.bw
        clear S6
        go_wp2_with (at_builtin; refine wl_appendS rfl (.tmp 81) (.tmp 88) rfl B1 _ ll [(tt, X)] rfl S20.out.s _ 1 1 rfl hone.out rfl (hle5.out X) hsz ?_; intro v21 w21 hO21 hG21 hA21; have S21 := hide (S20.out.grow hbW hB1 (HQ.out _ _ _ S20.out.s) hO21 hG21); clear hO21 hG21 hA21)
        go_roundw
        case rel => (repeat apply Exists.intro); exact ⟨⟨i + 1, vv, ll ++ [(tt, X)], by omega, by go_num, by go_num, Hvv, HL2.out X, S21⟩, rfl⟩
        case measure => simp [intOf]; omega
      · go_upto_if 62 with (go_at_call 41; (with_reducible refine (t_boolN B b 5 _ _ (by omega) (by omega) S5.out.t (Upd.refl _ _)).mono ?_); rintro e w6 ⟨v, rfl, T, u⟩; have S6 := hide (S5.out.upd hbW hB1 u T); clear u T S5)
        cases v with
        | false =>
          have Hvv := hide iv
          go_upto_region 24 with (go_at_call 20; (with_reducible refine (t_next B b 3 _ i3 S6.out.t).mono ?_); rintro e w7 ⟨s, rfl, hs, T, u⟩; obtain ⟨z, rfl⟩ := Int.eq_ofNat_of_zero_le hs.1; have hz : z < 3 := (by have := hs.2.1 (by omega); omega); have S7 := hide (S6.out.upd hbW hB1 u T); obtain ⟨X, X1, X2, iX⟩ := wr64 (vv + (z : Int)); clear hs u T S6)
          have S20 := hide (S7.out.alloc (.cells #[.int .i64 tt, .int .i64 X] 57))
          have ct0 := KC.out _ _ _ S7.out
          have ct := KC.out _ _ _ S20.out
          have hone := hide (one_atS w7 tt X itt iX)
          have hsz := S20.out.bw
          clear S7
          go_wp2_with (at_builtin; refine wl_appendS rfl (.tmp 81) (.tmp 88) rfl B1 _ ll [(tt, X)] rfl S20.out.s _ 1 1 rfl hone.out rfl (hle5.out X) hsz ?_; intro v21 w21 hO21 hG21 hA21; have S21 := hide (S20.out.grow hbW hB1 (HQ.out _ _ _ S20.out.s) hO21 hG21); clear hO21 hG21 hA21)
          go_roundw
          case rel => (repeat apply Exists.intro); exact ⟨⟨i + 1, vv, ll ++ [(tt, X)], by omega, by go_num, by go_num, Hvv, HL2.out X, S21⟩, rfl⟩
          case measure => simp [intOf]; omega
        | true =>
          go_upto_region 24 with (first | (go_at_call 20; (with_reducible refine (t_next B b 400 _ i400 S6.out.t).mono ?_); rintro e w7 ⟨s, rfl, hs, T, u⟩; obtain ⟨y, rfl⟩ := Int.eq_ofNat_of_zero_le hs.1; have hy : y < 400 := (by have := hs.2.1 (by omega); omega); have S7 := hide (S6.out.upd hbW hB1 u T); obtain ⟨V2, V1, W2, iV2⟩ := wr64 (vv + ((y : Int) - 200)); have HV2 := hide iV2; clear hs u T S6) | (go_at_call 20; (with_reducible refine (t_next B b 3 _ i3 S7.out.t).mono ?_); rintro e w8 ⟨s, rfl, hs, T, u⟩; obtain ⟨z, rfl⟩ := Int.eq_ofNat_of_zero_le hs.1; have hz : z < 3 := (by have := hs.2.1 (by omega); omega); have S8 := hide (S7.out.upd hbW hB1 u T); obtain ⟨X, X1, X2, iX⟩ := wr64 (V2 + (z : Int)); clear hs u T S7))
          have S20 := hide (S8.out.alloc (.cells #[.int .i64 tt, .int .i64 X] 57))
          have ct0 := KC.out _ _ _ S8.out
          have ct := KC.out _ _ _ S20.out
          have hone := hide (one_atS w8 tt X itt iX)
          have hsz := S20.out.bw
          clear S8
          go_wp2_with (at_builtin; refine wl_appendS rfl (.tmp 81) (.tmp 88) rfl B1 _ ll [(tt, X)] rfl S20.out.s _ 1 1 rfl hone.out rfl (hle5.out X) hsz ?_; intro v21 w21 hO21 hG21 hA21; have S21 := hide (S20.out.grow hbW hB1 (HQ.out _ _ _ S20.out.s) hO21 hG21); clear hO21 hG21 hA21)
          go_roundw
          case rel => (repeat apply Exists.intro); exact ⟨⟨i + 1, V2, ll ++ [(tt, X)], by omega, by go_num, by go_num, HV2, HL2.out X, S21⟩, rfl⟩
          case measure => simp [intOf]; omega
      · have Hvv := hide iv
        go_upto_region 24 with (first | (go_at_call 20; (with_reducible refine (t_next B b 50 _ i50 S5.out.t).mono ?_); rintro e w6 ⟨s, rfl, hs, T, u⟩; obtain ⟨y, rfl⟩ := Int.eq_ofNat_of_zero_le hs.1; have hy : y < 50 := (by have := hs.2.1 (by omega); omega); have S6 := hide (S5.out.upd hbW hB1 u T); clear hs u T S5) | (go_at_call 20; (with_reducible refine (t_next B b 50 _ i50 S6.out.t).mono ?_); rintro e w7 ⟨s, rfl, hs, T, u⟩; obtain ⟨z, rfl⟩ := Int.eq_ofNat_of_zero_le hs.1; have hz : z < 50 := (by have := hs.2.1 (by omega); omega); have S7 := hide (S6.out.upd hbW hB1 u T); obtain ⟨P, P1, P2, iP⟩ := wr64 ((y : Int) * (z : Int)); obtain ⟨X, X1, X2, iX⟩ := wr64 (P * sl); clear hs u T S6))
        have S20 := hide (S7.out.alloc (.cells #[.int .i64 tt, .int .i64 X] 57))
        have ct0 := KC.out _ _ _ S7.out
        have ct := KC.out _ _ _ S20.out
        have hone := hide (one_atS w7 tt X itt iX)
        have hsz := S20.out.bw
        clear S7
        go_wp2_with (at_builtin; refine wl_appendS rfl (.tmp 81) (.tmp 88) rfl B1 _ ll [(tt, X)] rfl S20.out.s _ 1 1 rfl hone.out rfl (hle5.out X) hsz ?_; intro v21 w21 hO21 hG21 hA21; have S21 := hide (S20.out.grow hbW hB1 (HQ.out _ _ _ S20.out.s) hO21 hG21); clear hO21 hG21 hA21)
        go_roundw
        case rel => (repeat apply Exists.intro); exact ⟨⟨i + 1, vv, ll ++ [(tt, X)], by omega, by go_num, by go_num, Hvv, HL2.out X, S21⟩, rfl⟩
        case measure => simp [intOf]; omega
    · obtain rfl : i = n := by omega
      have d0 : decide ((i : Int) < (i : Int)) = false := decide_eq_false (by omega)
      go_wp2_with fail
      go_ret
      have hL := HL.out
      rw [List.take_of_length_le (by have := Hm.out; omega)] at hL
      obtain ⟨A, c, hv, h1, h2, h3⟩ := S5.out.s.at_
      have hO := S5.out.s
      subst hv
      have hll : ll.length = i := by rw [← Hm.out, ← hL, List.length_map]
      exact ⟨A, _, c, ll, rfl, rfl, by omega, h1, h2, by rw [hL]; exact Hinc.out, hO.less hB1, S5.out.t, S5.out.u⟩
end
section
open Go Go.RowKit
/-- Values that the tape gives: owned. -/
def ValsPost (N B b : Nat) (W : World) (e : Ending) (w' : World) : Prop := ∃ A n cap l, e = .returned (.slice A n cap) ∧ l.length = n ∧ n ≤ N ∧ n ≤ cap ∧ cap ≤ 9223372036854775807 ∧ OwnT W.heap.size w' (.slice A n cap) l ∧ TapeOk B w' b ∧ Upd b W w'
set_option maxHeartbeats 3200000 in
set_option maxRecDepth 100000 in
theorem t_values (N B b : Nat) (hN : N ≤ 1000) (W : World) (hT : TapeOk B W b) : Calls Try.prog 9 #[.pointer (some ⟨b, 0, none⟩), .int .i64 (N : Int)] W (ValsPost N B b W) := by
  have KT := hide (t_samples N B b hN W hT)
  have hbW := hT.2.1
  clear hT
  go_enter Try.func9, Try.ntmps9
  go_upto_region 2 with (go_at_call 24; (with_reducible refine (KT.out).mono ?_); rintro e w1 ⟨Am, n, cap, m, rfl, hm, hnN, hncap, hncap2, -, hO, T1, u1⟩; have T1 := hide T1; have U1 := hide u1; have M1 := hide (own_samps hO); have Hm := hide hm; clear hO hm u1)
  have hB1 : W.heap.size ≤ w1.heap.size := U1.out.2.2.2.1
  have E1 : Hid (Ext w1 w1) := Ext.refl _
  have Hs := hide M1.out.1
  clear KT
  go_wp2_with fail
  go_loopw [6, 7] (fun lv iv wr => ∃ i : Nat, i ≤ n ∧ iv = .int .i64 (i : Int) ∧ Hid (OwnT w1.heap.size wr lv ((m.map Prod.snd).take i)) ∧ Hid (Ext w1 wr)) (fun _ iv _ => n - (intOf iv).toNat)
  case atStart => exact ⟨0, by omega, rfl, hide (OwnT.nil_ _ _), E1⟩
  case round =>
    clear E1
    obtain ⟨i, hi, rfl, HO, HE⟩ := hrel
    by_cases hlt : i < n
    · have d0 : decide ((i : Int) < (n : Int)) = true := decide_eq_true (by omega)
      have him : i < m.length := by rw [Hm.out]; exact hlt
      obtain ⟨bm, om, rfl, _, hc⟩ := (M1.out.ext HE.out).2.2 (by omega)
      have ct := (hc i him).2
      rw [← Nat.add_assoc] at ct
      have ix := fun w => idxS bm om n cap i hlt w
      have hst := takeT_succ (l := m.map Prod.snd) (k := i) (by rw [List.length_map]; exact him)
      have hget : (m.map Prod.snd).getD i 0 = (m.getD i (0, 0)).2 := by simp [List.getD_eq_getElem?_getD, him]
      have hx := (Hs.out.get i).2
      obtain ⟨x, hxx⟩ : ∃ x, (m.getD i (0, 0)).2 = x := ⟨_, rfl⟩
      rw [hxx] at ct hx hget
      rw [hget] at hst
      have hle : ((m.map Prod.snd).take i).length + [x].length ≤ 17592186044416 := by rw [List.length_take, List.length_map, Hm.out]; simp; omega
      have Hst := hide hst
      have O3 := hide (HO.out.alloc (.cells #[Value.int .i64 x] 2))
      have hone := hide (one_atT wr x hx _ rfl)
      have E3 := hide (Ext.trans HE.out (ext_alloc wr (.cells #[Value.int .i64 x] 2)))
      obtain ⟨T, hT⟩ : ∃ T, (m.map Prod.snd).take i = T := ⟨_, rfl⟩
      rw [hT] at O3 Hst hle
      clear hc him hst hget hxx hT HO HE
      go_wp2_with (at_builtin; refine wl_appendT rfl (.tmp 17) (.tmp 23) rfl w1.heap.size _ T [x] rfl O3.out _ 1 1 rfl hone.out rfl hle E3.out.size ?_; intro v6 w6 hO6 hG6 hA6)
      have O6 : Hid (OwnT w1.heap.size w6 v6 ((m.map Prod.snd).take (i + 1))) := by show OwnT _ _ _ _; rw [Hst.out]; exact hO6
      have E6 := hide (below_grownT E3.out (Nat.le_refl _) O3.out hG6)
      clear hO6 hG6 hA6 O3 E3
      go_roundw
      case rel => exact ⟨i + 1, by omega, by go_num, O6, E6⟩
      case measure => simp [intOf]; omega
    · obtain rfl : i = n := by omega
      have d0 : decide ((i : Int) < (i : Int)) = false := decide_eq_false (by omega)
      go_wp2_with fail
      go_ret
      have hO := HO.out
      rw [List.take_of_length_le (by rw [List.length_map, Hm.out]; omega)] at hO
      obtain ⟨A, c, hv, h1, h2, h3⟩ := hO.at_
      subst hv
      have hll : (m.map Prod.snd).length = i := by rw [List.length_map, Hm.out]
      exact ⟨A, _, c, _, rfl, rfl, by omega, h1, h2, hO.less hB1, T1.out.ext HE.out, U1.out.trans (Ext.upd HE.out b)⟩
end
section
open Go Go.RowKit
set_option maxRecDepth 100000 in
set_option maxHeartbeats 1600000 in
theorem l_reads11 (A : Option Addr) (c cap : Nat) (b : List Nat) (at_ n : Int) (W : World) (hb : BytesAt W A b) (hc : b.length = c) (hcap : c ≤ cap) (hcap2 : c ≤ 4611686018427387904) (hat : I64 at_) (hn : I64 n) :
    Calls Try.prog 18 #[.slice A c cap, .int .i64 at_, .int .i64 n] W (Ret (.bool true) W) := by
  obtain ⟨L, nx, e1, hR⟩ : ∃ L nx e1, deR b at_ n = (L, nx, e1) := ⟨_, _, _, rfl⟩
  obtain ⟨m, hm⟩ : ∃ m, L.length = m := ⟨_, rfl⟩
  have K1 : Hid (Calls Try.prog 22 #[.slice A c cap, .int .i64 at_, .int .i64 n] W fun e w' => ∃ A3 c3, e = .returned (.tuple #[.slice A3 m c3, .int .i64 nx, .int .i64 e1]) ∧ TimesAt w' A3 L ∧ Ext W w') := hide ((p_deR A c cap b at_ n W hb hc hcap hcap2 hat hn _ hR).mono fun e w' h => by
    obtain ⟨A3, c3, rfl, _, _, _, hw, hE⟩ := h.parts
    exact ⟨A3, c3, by rw [hm], hw, hE⟩)
  have K2 : Hid (∀ w, Ext W w → Calls Try.prog 35 #[.slice A c cap, .int .i64 at_, .int .i64 n] w fun e w' => ∃ A3 c3, e = .returned (.tuple #[.slice A3 m c3, .int .i64 nx, .int .i64 e1]) ∧ TimesAt w' A3 L ∧ Ext w w') := hide (fun w hE => (r_deR A c cap b at_ n w (hb.ext hE) hc hcap hcap2 hat hn _ hR).mono fun e w' h => by
    obtain ⟨A3, c3, rfl, _, _, _, hw, hE⟩ := h.parts
    exact ⟨A3, c3, by rw [hm], hw, hE⟩)
  have K3 : Hid (∀ A1 c1 A2 c2 w, TimesAt w A1 L → TimesAt w A2 L → Calls Try.prog 23 #[.slice A1 m c1, .slice A2 m c2] w (Ret (.bool true) w)) := hide (fun A1 c1 A2 c2 w h1 h2 => t_same A1 A2 m m c1 c2 L L w h1 h2 hm hm true (by simp))
  have de : (e1 == e1) = true := by simp
  have dn : (nx == nx) = true := by simp
  clear hb hc hR hm
  go_enter Try.func18, Try.ntmps18
  go_wp2_with (first
    | (go_at_call 22; (with_reducible refine (K1.out).mono ?_); rintro e w1 ⟨A1, c1, rfl, hb1, hE1⟩; have k2 := hide (K2.out w1 hE1); have b1 := hide hb1; have E1 := hide hE1; clear hb1 hE1)
    | (go_at_call 35; (with_reducible refine (k2.out).mono ?_); rintro e w2 ⟨A2, c2, rfl, hb2, hE2⟩; have E2 := hide (Ext.trans E1.out hE2); have k3 := hide (K3.out A1 c1 A2 c2 w2 (b1.out.ext hE2) hb2); clear hb2 hE2 b1)
    | (go_at_call 23; (with_reducible refine (k3.out).mono ?_); rintro e w3 ⟨rfl, hE3⟩; have E3 := hide (Ext.trans E2.out hE3); clear hE3))
  go_ret
  exact ⟨rfl, E3.out⟩
def kl : List Int := [1000, 1001, 1002, 1003, 1004, 1005, 1006, 1007, 1008, 1009]
def kb : List Nat := [1, 0, 208, 15, 2, 2, 2, 2, 2, 2, 2, 2, 2]
theorem kl_t : IsT kl := by
  intro x hx
  simp [kl] at hx
  unfold I64
  omega
theorem k_r0 : resL kl 0 = [2000, 2002, 2004, 2006, 2008, 2010, 2012, 2014, 2016, 2018] := by decide +kernel
theorem k_r1 : resL kl 1 = [2000, 2, 2, 2, 2, 2, 2, 2, 2, 2] := by decide +kernel
theorem k_r2 : resL kl 2 = [2000, 1997, 0, 0, 0, 0, 0, 0, 0, 0] := by decide +kernel
theorem k_c0 : (cR kl 0).length = 17 := by
  have e : encV (resL kl 0) = [208, 15, 210, 15, 212, 15, 214, 15, 216, 15, 218, 15, 220, 15, 222, 15, 224, 15, 226, 15] := by rw [k_r0]; simp [encV, encB_small, encB_big]
  unfold cR enN
  rw [e]
  decide +kernel
theorem k_c1 : cR kl 1 = kb := by
  have e : encV (resL kl 1) = [208, 15, 2, 2, 2, 2, 2, 2, 2, 2, 2] := by rw [k_r1]; simp [encV, encB_small, encB_big]
  unfold cR enN
  rw [e]
  decide +kernel
theorem k_c2 : (cR kl 2).length = 14 := by
  have e : encV (resL kl 2) = [208, 15, 205, 15, 0, 0, 0, 0, 0, 0, 0, 0] := by rw [k_r2]; simp [encV, encB_small, encB_big]
  unfold cR enN
  rw [e]
  decide +kernel
theorem known_enR : enR kl = (kb, 0) := by
  have e : ordR kl = 1 := by
    unfold ordR
    rw [k_c0, k_c1, k_c2]
    decide +kernel
  rw [enR_ok (by simp [kl]), bestR, e, k_c1]
theorem known_deR : deR kb 0 10 = (kl, 13, 0) := by
  have := deR_enc kl [] [] kl_t (by simp [kl])
  rw [known_enR] at this
  simpa [kl, kb] using this
set_option maxRecDepth 100000 in
set_option maxHeartbeats 1600000 in
theorem l_known11 (W : World) : Calls Try.prog 16 #[] W (Ret (.bool true) W) := by
  have E0 := ext_alloc W (.cells #[.int .i64 1000, .int .i64 1001, .int .i64 1002, .int .i64 1003, .int .i64 1004, .int .i64 1005, .int .i64 1006, .int .i64 1007, .int .i64 1008, .int .i64 1009] 2)
  have H0 := new_atT W kl kl_t (by simp [kl]) #[.int .i64 1000, .int .i64 1001, .int .i64 1002, .int .i64 1003, .int .i64 1004, .int .i64 1005, .int .i64 1006, .int .i64 1007, .int .i64 1008, .int .i64 1009] rfl
  obtain ⟨W1, hW1⟩ : ∃ W1, W.alloc (.cells #[.int .i64 1000, .int .i64 1001, .int .i64 1002, .int .i64 1003, .int .i64 1004, .int .i64 1005, .int .i64 1006, .int .i64 1007, .int .i64 1008, .int .i64 1009] 2) = W1 := ⟨_, rfl⟩
  rw [hW1] at E0 H0
  obtain ⟨A0, hA0⟩ : ∃ A0, (some ⟨W.heap.size, 0, none⟩ : Option Addr) = A0 := ⟨_, rfl⟩
  rw [hA0] at H0
  have i0 : I64 0 := ⟨by omega, by omega⟩
  have i10 : I64 10 := ⟨by omega, by omega⟩
  have K1 : Hid (Calls Try.prog 10 #[.slice A0 10 10] W1 fun e w' => ∃ b1 o1 cap, e = .returned (.tuple #[.slice (some ⟨b1, o1, none⟩) 13 cap, .int .i64 0]) ∧ 13 ≤ cap ∧ BytesAt w' (some ⟨b1, o1, none⟩) kb ∧ Ext W1 w') := hide ((p_encR _ 10 10 kl W1 H0 (by simp [kl])).mono fun e w' h => by
    rw [known_enR] at h
    obtain ⟨A, cap, rfl, hcap, _, _, hb, hE⟩ := h.parts
    obtain ⟨b1, o1, rfl, _, _⟩ := hb.2.2 (by simp [kb])
    exact ⟨b1, o1, cap, rfl, hcap, hb, hE⟩)
  have K2 : Hid (∀ b1 o1 c1 w, 13 ≤ c1 → BytesAt w (some ⟨b1, o1, none⟩) kb → Calls Try.prog 22 #[.slice (some ⟨b1, o1, none⟩) 13 c1, .int .i64 0, .int .i64 10] w fun e w' => ∃ A cap, e = .returned (.tuple #[.slice A 10 cap, .int .i64 13, .int .i64 0]) ∧ TimesAt w' A kl ∧ Ext w w') := hide (fun b1 o1 c1 w hc hw => (p_deR _ 13 c1 kb 0 10 w hw rfl hc (by omega) i0 i10 _ known_deR).mono fun e w' h => by
    obtain ⟨A, cap, rfl, _, _, _, hb, hE⟩ := h.parts
    exact ⟨A, cap, rfl, hb, hE⟩)
  have K4 : Hid (∀ A2 c2 w, TimesAt w A0 kl → TimesAt w A2 kl → Calls Try.prog 23 #[.slice A0 10 10, .slice A2 10 c2] w (Ret (.bool true) w)) := hide (fun A2 c2 w h1 h2 => t_same A0 A2 10 10 10 c2 _ _ w h1 h2 rfl rfl true (by simp))
  have HB : Hid (∀ b1 o1 w, BytesAt w (some ⟨b1, o1, none⟩) kb → w.cell? ⟨b1, o1, none⟩ = some (.int .u8 1)) := hide (fun b1 o1 w h => by
    obtain ⟨_, _, he, _, hc⟩ := h.2.2 (by simp [kb])
    cases he
    exact hc 0 (by simp [kb]))
  have ix : ∀ (b1 o1 c1 : Nat) (w : World), (Instr.indexAt 28 (.slice (some ⟨b1, o1, none⟩) 13 c1) (.int .i64 0)).run Try.prog w = .ok (.pointer (some ⟨b1, o1, none⟩)) w := fun b1 o1 c1 w => idx8o b1 o1 13 c1 0 (by omega) w
  have HW1 := hide hW1
  have HA0 := hide hA0
  have E0 := hide E0
  have H0 := hide H0
  clear hW1 hA0
  go_enter Try.func16, Try.ntmps16
  go_upto_region 2 with fail
  rw [HW1.out, HA0.out]
  go_wp2_with (first
    | (go_at_call 10; (with_reducible refine (K1.out).mono ?_); rintro e w1 ⟨b1, o1, c1, rfl, hc1, hb1, hE1⟩; have b1' := hide hb1; have E1 := hide (Ext.trans E0.out hE1); have L1 := hide (H0.out.ext hE1); have k2 := hide (K2.out b1 o1 c1 w1 hc1 hb1); clear hb1 hE1)
    | (go_at_call 22; (with_reducible refine (k2.out).mono ?_); rintro e w2 ⟨A2, c2, rfl, hb2, hE2⟩; have cb := HB.out b1 o1 w2 (b1'.out.ext hE2); have E2 := hide (Ext.trans E1.out hE2); have k4 := hide (K4.out A2 c2 w2 (L1.out.ext hE2) hb2); clear hb2 hE2)
    | (go_at_call 23; (with_reducible refine (k4.out).mono ?_); rintro e w4 ⟨rfl, hE4⟩; have E4 := hide (Ext.trans E2.out hE4); clear hE4))
  go_ret
  exact ⟨rfl, E4.out⟩
end
section
open Go Go.RowKit Go.Sort
theorem idxTT (g N cap j : Nat) (h : j < N) (w : World) : (Instr.indexAt 27 (.slice (some ⟨g, 0, none⟩) N cap) (.int .i64 (j : Int))).run Try.prog w = .ok (.pointer (some ⟨g, j, none⟩)) w := by
  have hz := Try.sizeOf22
  have he : Try.prog.elem 27 = 22 := by kernel_rfl
  have hr := run_indexAt_slice (P := Try.prog) (w := w) 27 ⟨g, 0, none⟩ N cap .i64 (j : Int) (by kernel_rfl)
  rw [hr, if_pos ⟨by omega, by omega⟩, he, hz]
  simp [Result.andThen, add_at]
theorem IsT.set {l : List Int} (h : IsT l) (j : Nat) {y : Int} (hy : I64 y) : IsT (l.set j y) := by
  intro x hx
  rcases List.mem_or_eq_of_mem_set hx with h1 | h1
  · exact h x h1
  · subst h1; exact hy
end
section
open Go Go.RowKit
theorem run_append8w (B : Nat) (w : World) (ty : TypeId) (v : Value) (l0 l : List Nat) (hown : OwnB B w v l0) (A : Option Addr) (m c : Nat) (hb : BytesAt w A l) (hm : l.length = m) (hlen : l0.length + l.length ≤ 225179981368000) (hbase : B ≤ w.heap.size) :
    ∃ v' w', (Builtin.append_ #[28, 28] ty #[v, .slice A m c]).run Try.prog w = .ok v' w' ∧ OwnB B w' v' (l0 ++ l) ∧ w.grownBy w' v.ownBlock ∧ OwnB B w' v l0 := by
  subst hm
  obtain ⟨i0, hi0, hz0, hz1, hz2⟩ := info_parts info_u8
  have h63 : l0.length + l.length ≤ maxLen := by unfold maxLen; omega
  rcases A with _ | ad
  · have h0 : l = [] := by
      rcases Nat.eq_zero_or_pos l.length with h | h
      · exact List.length_eq_zero_iff.1 h
      · obtain ⟨b, off, h', _⟩ := hb.2.2 h
        cases h'
    subst h0
    refine ⟨v, w, ?_, by rw [List.append_nil]; exact hown, World.grownBy.refl w _, hown⟩
    rcases hown.1.2 with ⟨rfl, _⟩ | ⟨g, cap, cur, rfl, _, _, hnc, _⟩
    · simp [Builtin.append_, run_underlying Try.underlying28, sizeOf, typeInfo, hi0, Builtin.lenOf, Builtin.firstCells]
    · simp [Builtin.append_, run_underlying Try.underlying28, sizeOf, typeInfo, hi0, Builtin.lenOf, Builtin.firstCells, hnc, storeCells]
  · have hcells : ∀ j u, (u8s l)[j]? = some u → w.cell? (ad.add j) = some u := by
      intro j u hu
      have hj : j < l.length := by
        rcases Nat.lt_or_ge j (u8s l).length with h | h
        · rwa [u8s_len] at h
        · rw [List.getElem?_eq_none h] at hu; cases hu
      obtain ⟨b, off, h', _, hc⟩ := hb.2.2 (by omega)
      obtain rfl : ad = ⟨b, off, none⟩ := Option.some.inj h'
      rw [add_at, hc j hj, ← hu, getD_lt hj]
      simp [u8s, hj]
    have hlen8 : (u8s l).length = l.length * 1 := by rw [u8s_len]; omega
    obtain ⟨v', w', hrun, h2, h3, h4⟩ := run_append_own_wide (P := Try.prog) w B 28 ty 5 i0 _ 1 1 Try.underlying28 hi0 hz0 hz1 hz2 rfl (by omega) v l0.length (u8s l0) hown.1 ad l.length c (u8s l) hlen8 hcells (u8s_one l) h63 (by omega) hbase
    refine ⟨v', w', hrun, ⟨?_, hown.2.app hb.1⟩, h3, ?_⟩
    · rw [u8s_app, List.length_append]
      exact h2
    · refine ⟨?_, hown.2⟩
      obtain ⟨ho1, ⟨rfl, h0⟩ | ⟨g, cap, cur, rfl, hbg, hg, hnc, hcm, hcs, htake⟩⟩ := hown.1
      · exact ⟨ho1, Or.inl ⟨rfl, h0⟩⟩
      · by_cases hroom : l0.length + l.length ≤ cap
        · have hr := run_append_room (P := Try.prog) w 28 ty 5 i0 Try.underlying28 hi0 g l0.length cap cur hg ad l.length c (u8s l) (by rw [hz1]; exact hlen8) hcells (u8s_one l) hroom (by rw [hz1, u8s_len, hcs]; omega)
          rw [hr] at hrun
          injection hrun with e1 e2
          subst e2
          refine ⟨ho1, Or.inr ⟨g, cap, _, rfl, hbg, setRow_heap w g cur _ _ _ hg, hnc, hcm, ?_, ?_⟩⟩
          · simp only [List.size_toArray, List.length_append, List.length_take, List.length_drop, Array.length_toList, u8s_len, hz1]
            omega
          · rw [hz1, htake, List.append_assoc]
            exact List.take_left' (by rw [u8s_len]; omega)
        · have holds : ∀ j u, (u8s l0)[j]? = some u → w.cell? ((⟨g, 0, none⟩ : Addr).add j) = some u := hown.1.cells (g := g) rfl
          have hr := run_append_grow (P := Try.prog) w 28 ty 5 i0 _ Try.underlying28 hi0 hz0 ⟨g, 0, none⟩ l0.length cap (u8s l0) (by rw [hz1, u8s_len]; omega) holds ad l.length c (u8s l) (by rw [hz1]; exact hlen8) hcells (by omega) (by omega) (by rw [hz2]; exact growslice_fits_wide (by omega) (by omega))
          rw [hr] at hrun
          injection hrun with e1 e2
          subst e2
          refine ⟨ho1, Or.inr ⟨g, cap, cur, rfl, hbg, ?_, hnc, hcm, hcs, htake⟩⟩
          rw [← hg]
          exact Below.heap_alloc w.drew _ g (Array.getElem?_eq_some_iff.1 hg).1
end
section
open Go Go.RowKit
theorem wl_append8q {ops : Array Oper} {rest : List Oper} {o : Oper} {a : Act} {Q : Exit → Act → World → Prop} {w : World} (hgd : Region.wanted o (yielded ops a.tmps) = true) (s x : Operand)
    (ho : o.op = .call { callee := .builtin .append, args := #[s, x], argTypes := #[28, 28] })
    (B : Nat) (v : Value) (l0 l : List Nat) (hs : a.eval s = v) (hown : OwnB B w v l0) (A : Option Addr) (m c : Nat) (hx : a.eval x = .slice A m c) (hb : BytesAt w A l) (hm : l.length = m) (hlen : l0.length + l.length ≤ 225179981368000) (hbase : B ≤ w.heap.size)
    (h : ∀ v' w', OwnB B w' v' (l0 ++ l) → w.grownBy w' v.ownBlock → OwnB B w' v l0 → wpList Try.prog ops Q rest (a.put o.dst v') w') : wpList Try.prog ops Q (o :: rest) a w :=
  wpList_step fun _ hK => by
    rw [if_pos hgd]
    obtain ⟨v', w', hrun, h2, h3, h4⟩ := run_append8w B w o.type v l0 l hown A m c hb hm hlen hbase
    unfold Oper.wp execOp
    simp only [ho, resolve, invoke, builtin, Sem.run_bind, Sem.run_pure, Result.andThen_ok, List.map_toArray, List.map_cons, List.map_nil, hs, hx, hrun]
    exact hK _ _ (h v' w' h2 h3 h4)
/-- A number's conversion that is guarded. -/
theorem wl_convq {ops : Array Oper} {rest : List Oper} {o : Oper} {a : Act} {Q : Exit → Act → World → Prop} {w : World} (hgd : Region.wanted o (yielded ops a.tmps) = true) (t1 t2 : TypeId) (x : Operand) (ho : o.op = .convert t1 t2 x) (v v' : Value) (hx : a.eval x = v) (hr : (convert t1 t2 v).run Try.prog w = .ok v' w)
    (h : wpList Try.prog ops Q rest (a.put o.dst v') w) : wpList Try.prog ops Q (o :: rest) a w :=
  wpList_step fun _ hK => by
    rw [if_pos hgd]
    unfold Oper.wp execOp
    simp only [ho, Sem.run_bind, Sem.run_pure, Result.andThen_ok, hx, hr]
    exact hK _ _ h
/-- What is kept while lists are read: the tape and its list, and three slices of bytes that the law owns. -/
structure Nr (W : World) (B : Nat) (A : Option Addr) (n cap : Nat) (m : List Nat) (Ab : Option Addr) (z cb : Nat) (F : List Nat) (A3 : Option Addr) (n3 c3 : Nat) (l3 : List Nat) (A4 : Option Addr) (n4 c4 : Nat) (l4 : List Nat) (w : World) : Prop where
  s : Bs W B A n cap m w
  b : OwnB B w (.slice Ab z cb) F
  p : OwnB B w (.slice A3 n3 c3) l3
  k : OwnB B w (.slice A4 n4 c4) l4
  bw : B ≤ w.heap.size
section
variable {W : World} {B : Nat} {A : Option Addr} {n cap : Nat} {m : List Nat} {Ab : Option Addr} {z cb : Nat} {F : List Nat} {A3 : Option Addr} {n3 c3 : Nat} {l3 : List Nat} {A4 : Option Addr} {n4 c4 : Nat} {l4 : List Nat} {w w' : World}
theorem Nr.ext (s : Nr W B A n cap m Ab z cb F A3 n3 c3 l3 A4 n4 c4 l4 w) (k : Ext w w') : Nr W B A n cap m Ab z cb F A3 n3 c3 l3 A4 n4 c4 l4 w' := ⟨s.s.ext k, s.b.ext k, s.p.ext k, s.k.ext k, Nat.le_trans s.bw k.size⟩
theorem Nr.upd (s : Nr W B A n cap m Ab z cb F A3 n3 c3 l3 A4 n4 c4 l4 w) (u : Upd W.heap.size w w') (t : TapeOk W.heap.size w' W.heap.size) : Nr W B A n cap m Ab z cb F A3 n3 c3 l3 A4 n4 c4 l4 w' :=
  ⟨s.s.upd u t, s.b.upd u s.s.gb, s.p.upd u s.s.gb, s.k.upd u s.s.gb, Nat.le_trans s.bw u.2.2.2.1⟩
/-- Bytes appended to a slice that was just made: new memory alone. -/
theorem ext_lit {w w5 w6 : World} {v : Value} {x : List Nat} (e : Ext w w5) (o : OwnB w.heap.size w5 v x) (g : w5.grownBy w6 v.ownBlock) : Ext w w6 := below_grown e (Nat.le_refl _) o g
end
theorem own_lit (w : World) (l : List Nat) (hl : IsB l) (hm : l.length ≤ 1048576) (cs : Array Value) (hc : cs = (u8s l).toArray) {n : Nat} (hn : l.length = n) : OwnB w.heap.size (w.alloc (.cells cs 5)) (.slice (some ⟨w.heap.size, 0, none⟩) n n) l := own_new8 w l hl hm cs hc (Nat.le_refl _) hn
end
section
open Go Go.RowKit
theorem idxBB (g N cap j : Nat) (h : j < N) (w : World) : (Instr.indexAt 49 (.slice (some ⟨g, 0, none⟩) N cap) (.int .i64 (j : Int))).run Try.prog w = .ok (.pointer (some ⟨g, j, none⟩)) w := by
  have hz := Try.sizeOf28
  have he : Try.prog.elem 49 = 28 := by kernel_rfl
  have hr := run_indexAt_slice (P := Try.prog) (w := w) 49 ⟨g, 0, none⟩ N cap .i64 (j : Int) (by kernel_rfl)
  rw [hr, if_pos ⟨by omega, by omega⟩, he, hz]
  simp [Result.andThen, add_at]
theorem idxII (g N cap j : Nat) (h : j < N) (w : World) : (Instr.indexAt 23 (.slice (some ⟨g, 0, none⟩) N cap) (.int .i64 (j : Int))).run Try.prog w = .ok (.pointer (some ⟨g, j, none⟩)) w := by
  have hz := Try.sizeOf3
  have he : Try.prog.elem 23 = 3 := by kernel_rfl
  have hr := run_indexAt_slice (P := Try.prog) (w := w) 23 ⟨g, 0, none⟩ N cap .i64 (j : Int) (by kernel_rfl)
  rw [hr, if_pos ⟨by omega, by omega⟩, he, hz]
  simp [Result.andThen, add_at]
end
section
open Go Go.RowKit
set_option maxRecDepth 100000 in
set_option maxHeartbeats 6400000 in
theorem law_rforms (A : Option Addr) (n c : Nat) (l : List Int) (od : Int) (y : Option Addr) (len cap4 : Nat) (W : World) (hl : TimesAt W A l) (hn : l.length = n) (hn2 : n ≤ 17592186043904) (hod : I64 od) (hL : IsList W y len cap4) :
    Calls Try.prog 3 #[.slice A n c, .int .i64 od, .slice y len cap4] W (Ret (.bool true) W) := by
  have KN : Hid (Calls Try.prog 8 #[.slice y len cap4] W (NewPost W)) := t_new W y len cap4 hL
  have KL : Hid (∀ w, TapeOk W.heap.size w W.heap.size → Calls Try.prog 9 #[.pointer (some ⟨W.heap.size, 0, none⟩), .int .i64 25] w (ValsPost 25 W.heap.size W.heap.size w)) := hide (fun w h => t_values 25 W.heap.size W.heap.size (by omega) w h)
  have KK := hide (fun w => l_known11 w)
  have HL := hide hl
  have Hn := hide hn
  have KF : Hid (∀ (A : Option Addr) (n c : Nat) (l : List Int), l.length = n → ∃ z ze : Nat, ∃ q : List Nat,
      (∀ w, TimesAt w A l → Calls Try.prog 10 #[.slice A n c] w (fun e w' => ∃ A3 c3, e = .returned (.tuple #[.slice A3 z c3, .int .i64 (ze : Int)]) ∧ BytesAt w' A3 q ∧ Ext w w')) ∧
      (∀ w, TimesAt w A l → Calls Try.prog 11 #[.slice A n c] w (fun e w' => ∃ A3 c3, e = .returned (.tuple #[.slice A3 z c3, .int .i64 (ze : Int)]) ∧ BytesAt w' A3 q ∧ Ext w w')) ∧
      (∀ A1 c1 A2 c2 w, BytesAt w A1 q → BytesAt w A2 q → Calls Try.prog 12 #[.slice A1 z c1, .slice A2 z c2] w (Ret (.bool true) w))) := hide (fun A n c l hn => by
    refine ⟨(enR l).1.length, (enR l).2, (enR l).1, fun w h => (p_encR A n c l w h hn).mono fun e w' h => ?_, fun w h => (r_encR A n c l w h hn).mono fun e w' h => ?_, fun A1 c1 A2 c2 w h1 h2 => r_same A1 A2 _ _ c1 c2 _ _ w h1 h2 rfl rfl true (by simp)⟩
    · obtain ⟨A3, c3, rfl, _, _, _, hb, hE⟩ := h.parts
      exact ⟨A3, c3, rfl, hb, hE⟩
    · obtain ⟨A3, c3, rfl, _, _, _, hb, hE⟩ := h.parts
      exact ⟨A3, c3, rfl, hb, hE⟩)
  have KG : Hid (∀ (A : Option Addr) (n c : Nat) (l : List Int) (od : Int), l.length = n → n ≤ 17592186043904 → I64 od → ∃ z : Nat, ∃ q : List Nat, ∃ v : Bool,
      (∀ w, TimesAt w A l → Calls Try.prog 13 #[.slice A n c, .int .i64 od] w (fun e w' => ∃ A3 c3, e = .returned (.tuple #[.slice A3 z c3, .bool v]) ∧ WordsAt w' A3 q ∧ Ext w w')) ∧
      (∀ w, TimesAt w A l → Calls Try.prog 14 #[.slice A n c, .int .i64 od] w (fun e w' => ∃ A3 c3, e = .returned (.tuple #[.slice A3 z c3, .bool v]) ∧ WordsAt w' A3 q ∧ Ext w w')) ∧
      (∀ A1 c1 A2 c2 w, WordsAt w A1 q → WordsAt w A2 q → Calls Try.prog 15 #[.slice A1 z c1, .slice A2 z c2] w (Ret (.bool true) w))) := hide (fun A n c l od hn hn2 hod => by
    have hU : ∀ w e w', UpPost (resR l od) w e w' → ∃ A3 c3, e = .returned (.tuple #[.slice A3 ((resR l od).getD []).length c3, .bool (resR l od).isSome]) ∧ WordsAt w' A3 ((resR l od).getD []) ∧ Ext w w' := fun w e w' h => by
      obtain ⟨v, rfl, ho, hE⟩ := h
      obtain ⟨A1, c1, rfl, _, _, hw⟩ := ho.at_
      exact ⟨A1, c1, rfl, hw, hE⟩
    exact ⟨_, _, _, fun w h => (p_res A n c l od w h hn hn2 hod).mono fun e w' h => hU w e w' h, fun w h => (r_res A n c l od w h hn hn2 hod).mono fun e w' h => hU w e w' h, fun A1 c1 A2 c2 w h1 h2 => q_same A1 A2 _ _ c1 c2 _ _ w h1 h2 rfl rfl true (by simp)⟩)
  clear hL hl hn
  go_enter Try.func3, Try.ntmps3
  go_upto_region 3 with (first
    | (go_at_call 8; (with_reducible refine (KN.out).mono ?_); rintro e w1 ⟨rfl, hT, hE⟩; have T1 := hide hT; have E1 := hide hE; have kl := hide (KL.out w1 hT); clear hT hE)
    | (go_at_call 9; (with_reducible refine (kl.out).mono ?_); rintro e w2 ⟨Am, nm, cm, m, rfl, hm, hm25, hmcap, hmcap2, hO, hT2, hU2⟩; have S2 := hide (Bt.of E1.out T1.out hO hT2 hU2); have Hm := hide hm; clear hO hT2 hU2 hmcap hmcap2 hm))
  have Q3 := Blk.new w2 22 #[.slice A n c, .slice Am nm cm]
  have E3 := ext_alloc w2 (.cells #[.slice A n c, .slice Am nm cm] 22)
  obtain ⟨w3, hw3⟩ : ∃ w, w2.alloc (.cells #[.slice A n c, .slice Am nm cm] 22) = w := ⟨_, rfl⟩
  rw [hw3] at Q3 E3 ⊢
  obtain ⟨g, hg⟩ : ∃ q, w2.heap.size = q := ⟨_, rfl⟩
  rw [hg] at Q3 ⊢
  have Q3 := hide Q3
  have E3 := hide E3
  clear hw3 hg KN KL kl T1 E1
  go_upto_region 4 with fail
  have Q4 := Blk.new w3 3 #[.int .i64 od, .int .i64 0, .int .i64 1, .int .i64 2, .int .i64 3, .int .i64 (-1)]
  have E4 := ext_alloc w3 (.cells #[.int .i64 od, .int .i64 0, .int .i64 1, .int .i64 2, .int .i64 3, .int .i64 (-1)] 3)
  obtain ⟨w4, hw4⟩ : ∃ w, w3.alloc (.cells #[.int .i64 od, .int .i64 0, .int .i64 1, .int .i64 2, .int .i64 3, .int .i64 (-1)] 3) = w := ⟨_, rfl⟩
  rw [hw4] at Q4 E4 ⊢
  obtain ⟨g2, hg2⟩ : ∃ q, w3.heap.size = q := ⟨_, rfl⟩
  rw [hg2] at Q4 ⊢
  have Q5 := Q3.out.ext E4
  have S4 := hide ((S2.out.ext E3.out).ext E4)
  have Hx : Hid (∀ (wr : World) (k : Nat), Ext w4 wr → k < 2 → ∃ (A : Option Addr) (n c : Nat) (l : List Int), wr.cell? ⟨g, k, none⟩ = some (.slice A n c) ∧ TimesAt wr A l ∧ l.length = n ∧ n ≤ 17592186043904) := hide (fun wr k hE hk => by
    have q1 := Q5.ext hE
    obtain rfl | rfl : k = 0 ∨ k = 1 := by omega
    · exact ⟨A, n, c, l, q1.cell 0, (HL.out.ext S4.out.e).ext hE, Hn.out, hn2⟩
    · exact ⟨Am, nm, cm, m, q1.cell 1, S4.out.times.ext hE, Hm.out, by omega⟩)
  have Hy : Hid (∀ (wr : World) (j : Nat), Ext w4 wr → j < 6 → ∃ x : Int, wr.cell? ⟨g2, j, none⟩ = some (.int .i64 x) ∧ I64 x) := hide (fun wr j hE hj => by
    have q2 := Q4.ext hE
    obtain rfl | rfl | rfl | rfl | rfl | rfl : j = 0 ∨ j = 1 ∨ j = 2 ∨ j = 3 ∨ j = 4 ∨ j = 5 := by omega
    · exact ⟨od, q2.cell 0, hod⟩
    · exact ⟨0, q2.cell 1, ⟨by omega, by omega⟩⟩
    · exact ⟨1, q2.cell 2, ⟨by omega, by omega⟩⟩
    · exact ⟨2, q2.cell 3, ⟨by omega, by omega⟩⟩
    · exact ⟨3, q2.cell 4, ⟨by omega, by omega⟩⟩
    · exact ⟨-1, q2.cell 5, ⟨by omega, by omega⟩⟩)
  have EW4 := hide S4.out.e
  have hl1 := Q5.lt
  have hl2 := Q4.lt
  clear hw4 hg2 Q3 Q4 Q5 E3 E4 S2 S4
  go_wp2_with fail
  go_loopw [10] (fun iv wr => ∃ k : Nat, k ≤ 2 ∧ iv = .int .i64 (k : Int) ∧ Hid (Ext w4 wr)) (fun iv _ => 2 - (intOf iv).toNat)
  case atStart => exact ⟨0, by omega, rfl, hide (Ext.refl _)⟩
  case round =>
    obtain ⟨k, hk, rfl, HE⟩ := hrel
    by_cases hlt : k < 2
    · have d0 : decide ((k : Int) < 2) = true := decide_eq_true (by omega)
      obtain ⟨A5, n5, c5, l5, hc1, hta, hln, hn5⟩ := Hx.out wr k HE.out hlt
      have ix1 := fun w => idxTT g 2 2 k hlt w
      have C1 := hide hc1
      have G1 := hide (show g < wr.heap.size from Nat.lt_of_lt_of_le hl1 HE.out.size)
      have HW := hide hta
      obtain ⟨z, ze, q, K1, K2, K3⟩ := KF.out A5 n5 c5 l5 hln
      have K1 := hide (K1 wr hta)
      have K2 := hide (fun w (h : Ext wr w) => K2 w (hta.ext h))
      have K3 := hide (fun A1 c1 A2 c2 w h1 h2 => K3 A1 c1 A2 c2 w h1 h2)
      have KG1 := hide (fun od h => KG.out A5 n5 c5 l5 od hln hn5 h)
      have de : ((ze : Int) != (ze : Int)) = false := by simp
      clear hta hln
      go_upto_region 11 with (first
        | (go_at_call 10; (with_reducible refine (K1.out).mono ?_); rintro e z4 ⟨A6, c6, rfl, hb6, hE6⟩; have X4 := hide hE6; have b6 := hide hb6; have hc1 := (hE6.cell (p := ⟨g, k, none⟩) G1.out).trans C1.out; have k2 := hide (K2.out z4 hE6); clear hb6 hE6)
        | (go_at_call 11; (with_reducible refine (k2.out).mono ?_); rintro e z5 ⟨A7, c7, rfl, hb7, hE7⟩; have X5 := hide (X4.out.trans hE7); have k3 := hide (K3.out A6 c6 A7 c7 z5 (b6.out.ext hE7) hb7); clear hb7 hE7)
        | (go_at_call 12; (with_reducible refine (k3.out).mono ?_); rintro e z6 ⟨rfl, hE8⟩; have X6 := hide (X5.out.trans hE8); clear hE8))
      clear hc1
      obtain ⟨wo, hwo⟩ : ∃ wo, wo = wr := ⟨_, rfl⟩
      subst hwo
      clear K1 K2 K3 k2 k3 X4 X5 b6
      go_wp2_with fail
      go_loopw [15] (fun jv wi => ∃ j : Nat, j ≤ 6 ∧ jv = .int .i64 (j : Int) ∧ Hid (Ext wo wi)) (fun jv _ => 6 - (intOf jv).toNat)
      case atStart => exact ⟨0, by omega, rfl, X6⟩
      case round =>
        clear X6
        obtain ⟨j, hj, rfl, HX⟩ := hrel
        by_cases hlj : j < 6
        · have d1 : decide ((j : Int) < 6) = true := decide_eq_true (by omega)
          obtain ⟨x, hc2, hx⟩ := Hy.out wr j (Ext.trans HE.out HX.out) hlj
          have hc1 := (HX.out.cell (p := ⟨g, k, none⟩) G1.out).trans C1.out
          have ix2 := fun w => idxII g2 6 6 j hlj w
          have D1 := hide hc1
          have D2 := hide hc2
          have G3 := hide (show g < wr.heap.size from Nat.lt_of_lt_of_le G1.out HX.out.size)
          have G4 := hide (show g2 < wr.heap.size from Nat.lt_of_lt_of_le hl2 (Nat.le_trans HE.out.size HX.out.size))
          obtain ⟨zr, q, v, K1, K2, K3⟩ := KG1.out x hx
          have K1 := hide (fun w (h : Ext wr w) => K1 w (HW.out.ext (Ext.trans HX.out h)))
          have K2 := hide (fun w (h : Ext wr w) => K2 w (HW.out.ext (Ext.trans HX.out h)))
          have K3 := hide (fun A1 c1 A2 c2 w h1 h2 => K3 A1 c1 A2 c2 w h1 h2)
          have dv : (v != v) = false := by simp
          have EE : Hid (Ext wr wr) := Ext.refl _
          go_upto_region 14 with fail
          go_region_held3 (fun w' => w'.cell? ⟨g, k, none⟩ = some (.slice A5 n5 c5) ∧ w'.cell? ⟨g2, j, none⟩ = some (.int .i64 x)) (first | (with_reducible exact ⟨hc1, hc2⟩) | go_keep) (first
            | (go_at_call 13; (with_reducible refine (K1.out _ (by first | exact EE.out | exact (Ext.trans EE.out (ext_drew _)))).mono ?_); rintro e z1 ⟨A8, c8, rfl, hw8, hE⟩; have EE : Hid (Ext wr z1) := (by first | exact hide (EE.out.trans hE) | exact hide ((EE.out.trans (ext_drew _)).trans hE)); have hc1 := (EE.out.cell (p := ⟨g, k, none⟩) G3.out).trans D1.out; have hc2 := (EE.out.cell (p := ⟨g2, j, none⟩) G4.out).trans D2.out; have W8 := hide hw8; clear hE hw8))
          go_upto_region 15 with fail
          go_region_held3 (fun w' => w'.cell? ⟨g, k, none⟩ = some (.slice A5 n5 c5) ∧ w'.cell? ⟨g2, j, none⟩ = some (.int .i64 x)) (first | (with_reducible exact ⟨hc1, hc2⟩) | go_keep) (first
            | (go_at_call 14; (with_reducible refine (K2.out _ (by first | exact EE.out | exact (Ext.trans EE.out (ext_drew _)))).mono ?_); rintro e z2 ⟨A9, c9, rfl, hw9, hE⟩; have W88 : Hid (WordsAt z2 A8 q) := (by first | exact hide (W8.out.ext hE) | exact hide (W8.out.ext (Ext.trans (ext_drew _) hE))); have EE : Hid (Ext wr z2) := (by first | exact hide (EE.out.trans hE) | exact hide ((EE.out.trans (ext_drew _)).trans hE)); have hc1 := (EE.out.cell (p := ⟨g, k, none⟩) G3.out).trans D1.out; have hc2 := (EE.out.cell (p := ⟨g2, j, none⟩) G4.out).trans D2.out; have ks := hide (K3.out A8 c8 A9 c9 z2 W88.out hw9); clear hE hw9))
          go_wp2_with (go_at_call 15; (with_reducible refine (ks.out).mono ?_); rintro e z3 ⟨rfl, hE⟩; have HX2 := hide (Ext.trans HX.out (Ext.trans EE.out hE)); clear hE)
          go_roundw
          case rel => exact ⟨j + 1, by omega, by go_num, HX2⟩
          case measure => simp [intOf]; omega
        · obtain rfl : j = 6 := by omega
          have HE2 := hide (Ext.trans HE.out HX.out)
          go_wp2_with fail
          go_roundw
          case rel => exact ⟨k + 1, by omega, by go_num, HE2⟩
          case measure => simp [intOf]; omega
    · obtain rfl : k = 2 := by omega
      go_wp2_with (go_at_call 16; (with_reducible refine (KK.out _).mono ?_); rintro e z7 ⟨rfl, hE7⟩; have X7 := hide (Ext.trans EW4.out (Ext.trans HE.out hE7)); clear hE7)
      go_ret
      exact ⟨rfl, X7.out⟩
end
section
open Go Go.ChangeShapes Go.WideShapes Go.ChangeAt Go.RowKit
theorem cellsU8 : Try.prog.cellsOf 5 = 1 := by kernel_rfl
theorem bytesU8 : Try.prog.bytesOf 5 = 1 := by kernel_rfl
theorem u8_range {x : Int} (h : (Lit.int .u8 x).wf = true) : 0 ≤ x ∧ x < 256 := by
  have h1 : IntKind.u8.min = 0 := rfl
  have h2 : IntKind.u8.max = 255 := rfl
  simp only [Lit.wf, Bool.and_eq_true, decide_eq_true_eq] at h
  omega
/-- What an argument of type []byte is, and how long. -/
def InB (W : World) (a : Option Addr) (len cap : Nat) (l : List Nat) : Prop := l.length = len ∧ len ≤ cap ∧ cap ≤ 140737488351232 ∧ BytesAt W a l
theorem bytes_of_trod {H : Type} {enc : TypeId × Value → H} {W : World} {a : Option Addr} {len cap : Nat} {d : DataW H} {ps : List MemPlace} {ts : List TypeId} {ds : List (DataW H)} {j : Nat}
    (h : DataW.Trod enc Try.prog W 0 (fun _ => true) true 28 (.slice a len cap) d ps) (hsz : (DataW.weightsEach Try.prog ts ds).all (· ≤ reachBytes) = true) (ht : ts[j]? = some 28) (hd : ds[j]? = some d) : ∃ l, InB W a len cap l := by
  obtain ⟨fuel, hf⟩ := h
  rcases open_ints Try.underlying28 Try.underlying5 cellsU8 hf with ⟨hcs, _⟩ | ⟨x, n, c, zs, hcs, _, hl, hm, hz, hx, hcell, hwz⟩
  · simp [Value.cells] at hcs
    obtain ⟨rfl, rfl, rfl⟩ := hcs
    exact ⟨[], rfl, Nat.le_refl _, by omega, BytesAt.nil _ _⟩
  · simp [Value.cells] at hcs
    obtain ⟨rfl, rfl, rfl⟩ := hcs
    simp only [Prod.mk.injEq] at hx
    obtain ⟨rfl, _⟩ := hx
    have hw := sized_slice hsz (j := j) (t := 28) (e := 5) ht hd Try.underlying28
    rw [bytesU8] at hw
    simp only [lits, List.length_map, List.length_take, List.length_drop, reachBytes] at hw
    have hz : zs.length = cap := by simpa using hz
    have hr : ∀ i, i < zs.length → 0 ≤ zs.getD i 0 ∧ zs.getD i 0 < 256 := fun i hi => by
      have hg : zs.getD i 0 = zs[i] := by simp [List.getD, hi]
      rw [hg]
      exact u8_range (hwz _ (List.getElem_mem _))
    refine ⟨(zs.take len).map Int.toNat, by simp; omega, hl, by omega, ?_, by simp; omega, fun hp => ?_⟩
    · intro y hy
      simp only [List.mem_map] at hy
      obtain ⟨z, hz1, rfl⟩ := hy
      have := u8_range (hwz z (List.mem_of_mem_take hz1))
      omega
    · simp only [List.length_map, List.length_take] at hp ⊢
      obtain ⟨b, off, rfl, hc'⟩ := ints_at hcell (by omega)
      refine ⟨b, off, rfl, block_lt_of_cell (a := ⟨b, off + 0, none⟩) (hc' 0 (by omega)), fun i hi => ?_⟩
      have hi2 : i < zs.length := by omega
      have h3 := hr i hi2
      rw [hc' i (by omega)]
      congr 2
      have : (List.map Int.toNat (List.take len zs)).getD i 0 = (zs.getD i 0).toNat := by
        simp [List.getD_eq_getElem?_getD, List.getElem?_take, show i < len by omega, hi2]
      rw [this]
      omega
end
section
open Go Go.RowKit
/-- What is kept while lists are read: the tape and its list, and a slice of bytes that the law owns. -/
structure Nt (W : World) (B : Nat) (A : Option Addr) (n cap : Nat) (m : List Int) (Ab : Option Addr) (z cb : Nat) (F : List Nat) (w : World) : Prop where
  s : Bt W B A n cap m w
  b : OwnB B w (.slice Ab z cb) F
  bw : B ≤ w.heap.size
section
variable {W : World} {B : Nat} {A : Option Addr} {n cap : Nat} {m : List Int} {Ab : Option Addr} {z cb : Nat} {F : List Nat} {w w' : World}
theorem Nt.ext (s : Nt W B A n cap m Ab z cb F w) (k : Ext w w') : Nt W B A n cap m Ab z cb F w' := ⟨s.s.ext k, s.b.ext k, Nat.le_trans s.bw k.size⟩
theorem Nt.upd (s : Nt W B A n cap m Ab z cb F w) (u : Upd W.heap.size w w') (t : TapeOk W.heap.size w' W.heap.size) : Nt W B A n cap m Ab z cb F w' :=
  ⟨s.s.upd u t, s.b.upd u s.s.gb, Nat.le_trans s.bw u.2.2.2.1⟩
end
end
section
open Go Go.RowKit
set_option maxRecDepth 100000 in
set_option maxHeartbeats 64000000 in
theorem law_rreads (R : Option Addr) (cr capr : Nat) (lr : List Nat) (at_ nn : Int) (y : Option Addr) (len cap4 : Nat) (W : World)
    (hbr : BytesAt W R lr) (hcr : lr.length = cr) (hcr1 : cr ≤ capr) (hcr2 : capr ≤ 140737488351232) (hat : I64 at_) (hnn : I64 nn) (hL : IsList W y len cap4) :
    Calls Try.prog 4 #[.slice R cr capr, .int .i64 at_, .int .i64 nn, .slice y len cap4] W (Ret (.bool true) W) := by
  have KN : Hid (Calls Try.prog 8 #[.slice y len cap4] W (NewPost W)) := t_new W y len cap4 hL
  have KL : Hid (∀ w, TapeOk W.heap.size w W.heap.size → Calls Try.prog 9 #[.pointer (some ⟨W.heap.size, 0, none⟩), .int .i64 20] w (ValsPost 20 W.heap.size W.heap.size w)) := hide (fun w h => t_values 20 W.heap.size W.heap.size (by omega) w h)
  have KK := hide (fun w => l_known11 w)
  have i15 : I64 15 := ⟨by omega, by omega⟩
  have i4 : I64 4 := ⟨by omega, by omega⟩
  have i2 : I64 2 := ⟨by omega, by omega⟩
  have i0 : I64 0 := ⟨by omega, by omega⟩
  have KM := hide (fun w => t_modI nn 15 w hnn i15)
  have KX : Hid (∀ w, TapeOk W.heap.size w W.heap.size → Calls Try.prog 20 #[.pointer (some ⟨W.heap.size, 0, none⟩), .int .i64 4] w (NextPost W.heap.size W.heap.size (InN 4) .i64 w)) := hide (fun w h => t_next W.heap.size W.heap.size 4 w i4 h)
  have KX2 : Hid (∀ w, TapeOk W.heap.size w W.heap.size → Calls Try.prog 20 #[.pointer (some ⟨W.heap.size, 0, none⟩), .int .i64 2] w (NextPost W.heap.size W.heap.size (InN 2) .i64 w)) := hide (fun w h => t_next W.heap.size W.heap.size 2 w i2 h)
  have Hr := hide hbr
  have Hcr := hide hcr
  have KA : Hid (∀ w, Ext W w → Calls Try.prog 18 #[.slice R cr capr, .int .i64 at_, .int .i64 nn] w (Ret (.bool true) w)) := hide (fun w h => l_reads11 R cr capr lr at_ nn w (hbr.ext h) hcr hcr1 (by omega) hat hnn)
  have KB : Hid (∀ x : Int, I64 x → ∀ w, Ext W w → Calls Try.prog 18 #[.slice R cr capr, .int .i64 0, .int .i64 x] w (Ret (.bool true) w)) := hide (fun x hx w h => l_reads11 R cr capr lr 0 x w (hbr.ext h) hcr hcr1 (by omega) i0 hx)
  have KR : Hid (∀ (A : Option Addr) (c cap : Nat) (b : List Nat) (x : Int) (w : World), BytesAt w A b → b.length = c → c ≤ cap → c ≤ 4611686018427387904 → I64 x → Calls Try.prog 18 #[.slice A c cap, .int .i64 0, .int .i64 x] w (Ret (.bool true) w)) := hide (fun A c cap b x w hb hc h1 h2 hx => l_reads11 A c cap b 0 x w hb hc h1 h2 i0 hx)
  clear hL hbr hcr
  go_enter Try.func4, Try.ntmps4
  go_upto_region 3 with (first
    | (go_at_call 8; (with_reducible refine (KN.out).mono ?_); rintro e w1 ⟨rfl, hT, hE⟩; have T1 := hide hT; have E1 := hide hE; have kl := hide (KL.out w1 hT); clear hT hE)
    | (go_at_call 9; (with_reducible refine (kl.out).mono ?_); rintro e w2 ⟨Am, n, cap, m, rfl, hn, hn20, hncap, hncap2, hO, hT2, hU2⟩; have hB2 : w1.heap.size ≤ w2.heap.size := hU2.2.2.2.1; have S2 := hide (Bt.of E1.out T1.out hO hT2 hU2); clear hO hT2 hU2 hncap hncap2))
  obtain ⟨B, hB⟩ : ∃ B, w1.heap.size = B := ⟨_, rfl⟩
  rw [hB] at S2 hB2
  have hq := S2.out.o.2
  have hln : m.length ≤ 65536 := by omega
  have hsz := cR_len hq hln 0
  have hsz2 := bestR_le m 0 (by omega)
  obtain ⟨F, hF⟩ : ∃ F, bestR m = F := ⟨_, rfl⟩
  rw [hF] at hsz2
  obtain ⟨z, hz⟩ : ∃ z, F.length = z := ⟨_, rfl⟩
  rw [hz] at hsz2
  have hz2 : z ≤ 1000 := by omega
  have KE : Hid (Calls Try.prog 11 #[.slice Am n cap] w2 fun e w' => ∃ Ab cb, e = .returned (.tuple #[.slice Ab z cb, .int .i64 0]) ∧ z ≤ cb ∧ cb ≤ 9223372036854775807 ∧ OwnB B w' (.slice Ab z cb) F ∧ Ext w2 w') := hide ((r_encR Am n cap m w2 S2.out.times hn).mono fun e w' h => by
    rw [enR_ok hln] at h
    obtain ⟨Ab, cb, rfl, h1, h2, ho, _, hE⟩ := h.parts
    simp only [hF, hz] at h1 ho
    exact ⟨Ab, cb, by simp only [hF, hz]; rfl, h1, h2, ho.less hB2, hE⟩)
  have KS : Hid (∀ k : Nat, k ≤ 2 → ∃ (zk zek : Nat) (Fk : List Nat), Fk.length = zk ∧ zk ≤ 1000 ∧
      (∀ w, Bt W B Am n cap m w → Calls Try.prog 14 #[.slice Am n cap, .int .i64 (k : Int)] w fun e w' => ∃ A1 c1, e = .returned (.tuple #[.slice A1 n c1, .bool true]) ∧ WordsAt w' A1 (resL m k) ∧ Ext w w') ∧
      (∀ A1 c1 w, WordsAt w A1 (resL m k) → Calls Try.prog 17 #[.slice A1 n c1] w fun e w' => ∃ A4 c4, e = .returned (.tuple #[.slice A4 zk c4, .int .i64 (zek : Int)]) ∧ BytesAt w' A4 Fk ∧ Ext w w')) := hide (fun k hk => by
    have h2 := cR_len hq hln k
    rw [cR, List.length_cons] at h2
    refine ⟨_, (enN (resL m k)).2, (enN (resL m k)).1, rfl, by omega, fun w s => ?_, fun A1 c1 w h => (r_encN A1 n c1 (resL m k) w h (by rw [resL_len]; exact hn)).mono fun e w' h => ?_⟩
    · have e : resR m (k : Int) = some (resL m k) := by unfold resR; rw [if_neg (by omega), Int.toNat_natCast]
      have := r_res Am n cap m (k : Int) w s.times hn (by omega) ⟨by omega, by omega⟩
      rw [e] at this
      refine this.mono fun e w' h => ?_
      obtain ⟨v, rfl, ho, hE⟩ := h
      obtain ⟨A1, c1, rfl, _, _, hw⟩ := ho.at_
      exact ⟨A1, c1, by rw [show (some (resL m k)).getD [] = resL m k from rfl, resL_len, hn]; rfl, hw, hE⟩
    · obtain ⟨A4, c4, rfl, _, _, _, hb, hE⟩ := h.parts
      exact ⟨A4, c4, rfl, hb, hE⟩)
  have HF := hide hz
  have isz : I64 (n : Int) := ⟨by omega, by omega⟩
  clear hB KN KL kl T1 E1 hn hq hln hsz hsz2 hF hz
  go_upto_region 4 with (go_at_call 11; (with_reducible refine (KE.out).mono ?_); rintro e w3 ⟨Ab, cb, rfl, hzb, hzb2, hO3, hE3⟩; have S3 := hide (show Nt W B Am n cap m Ab z cb F w3 from ⟨S2.out.ext hE3, hO3, Nat.le_trans hB2 hE3.size⟩); clear hE3 hO3)
  have gb := S3.out.s.gb
  clear KE S2
  go_wp2_with fail
  go_loopw [13] (fun iv wr => ∃ k : Nat, k ≤ 3 ∧ iv = .int .i64 (k : Int) ∧ Hid (Nt W B Am n cap m Ab z cb F wr)) (fun iv _ => 3 - (intOf iv).toNat)
  case atStart => exact ⟨0, by omega, rfl, S3⟩
  case round =>
    clear S3
    obtain ⟨k, hk, rfl, HS⟩ := hrel
    by_cases hlt : k ≤ 2
    · have d2 : decide ((k : Int) ≤ 2) = true := decide_eq_true (by omega)
      obtain ⟨zk, zek, Fk, hzk, hzk2, K1, K2⟩ := KS.out k hlt
      have K1 := hide (K1 wr HS.out.s)
      have K2 := hide K2
      have Hzk := hide hzk
      have hcv : IntKind.u8.wrap (k : Int) = (k : Int) := by rw [wrap_8]; omega
      have hcv2 : (k : Int) % 256 = (k : Int) := by omega
      have H6 : Hid (([k] ++ Fk).length = 1 + zk) := hide (by rw [List.length_append, Hzk.out]; rfl)
      have L6 : ([k] : List Nat).length + Fk.length ≤ 225179981368000 := by rw [Hzk.out]; simp; omega
      have Hk : Hid (IsB [k]) := hide (IsB.one (by omega))
      clear hzk
      go_wp2_with (first
        | (go_at_call 14; (with_reducible refine (K1.out).mono ?_); rintro e w4 ⟨A1, c1, rfl, hw, hE⟩; have S4 := hide (HS.out.ext hE); have k2 := hide (K2.out A1 c1 w4 hw); clear hw hE)
        | (go_at_call 17; (with_reducible refine (k2.out).mono ?_); rintro e w5 ⟨A4, c4, rfl, hb, hE⟩; have S5 := hide (S4.out.ext hE); have e5 := ext_alloc w5 (.cells #[.int .u8 (k : Int)] 5); have b5 := hide (hb.ext e5); have K5 := hide (own_lit w5 [k] Hk.out (by simp) #[.int .u8 (k : Int)] rfl (n := 1) rfl); have hs5 := e5.size; clear hb hE e5)
        | (at_builtin; refine wl_append8q (by kernel_rfl) (.tmp 45) (.tmp 46) rfl w5.heap.size _ [k] Fk rfl K5.out A4 zk c4 rfl b5.out Hzk.out L6 hs5 ?_; intro v6 w6 hO6 hG6 hA6; have hx6 := ext_lit (ext_alloc w5 _) K5.out hG6; have S6 := hide (S5.out.ext hx6); obtain ⟨A6, c6, rfl, hle6, -, hb6⟩ := hO6.at_; rw [H6.out] at hle6 ⊢; have k6 := hide (KR.out A6 (1 + zk) c6 _ _ w6 hb6 H6.out hle6 (by omega) isz); clear hO6 hG6 hA6 hx6 hb6)
        | (go_at_call 18; (with_reducible refine (k6.out).mono ?_); rintro e w7 ⟨rfl, hE7⟩; have S7 := hide (S6.out.ext hE7); clear hE7))
      go_roundw
      case rel => exact ⟨k + 1, by omega, by go_num, S7⟩
      case measure => simp [intOf]; omega
    · obtain rfl : k = 3 := by omega
      have S3 := HS
      clear KS HS
      go_upto_region 12 with (go_at_call 19; (with_reducible refine (KM.out _).mono ?_); rintro e w8 ⟨mm, rfl, hmm, hw8⟩; have m0 := hmm.1; have m1 := hmm.2.1 (by omega); have imm : I64 mm := ⟨by omega, by omega⟩; clear hmm)
      have S8 : Hid (Nt W B Am n cap m Ab z cb F w8) := by rw [← hw8]; exact S3
      clear hw8 S3
      have H8 : Hid (∀ x : Nat, ([x, 0] ++ lr).length = 2 + cr) := hide (fun x => by rw [List.length_append, Hcr.out]; rfl)
      have L8 : Hid (∀ x : Nat, ([x, 0] : List Nat).length + lr.length ≤ 225179981368000) := hide (fun x => by rw [Hcr.out]; simp; omega)
      have H4c : Hid ((F ++ lr).length = z + cr) := hide (by rw [List.length_append, HF.out, Hcr.out])
      have L4c : F.length + lr.length ≤ 225179981368000 := by rw [HF.out, Hcr.out]; omega
      go_wp2_with (first
        | (go_at_call 16; (with_reducible refine (KK.out _).mono ?_); rintro e w9 ⟨rfl, hE9⟩; have S9 := hide (S8.out.ext hE9); have k9 := hide (KA.out w9 S9.out.s.e); clear hE9)
        | (go_at_call 18; (with_reducible refine (k9.out).mono ?_); rintro e w10 ⟨rfl, hE10⟩; have S10 := hide (S9.out.ext hE10); clear hE10; have k10 := hide (KB.out _ imm w10 S10.out.s.e))
        | (go_at_call 18; (with_reducible refine (k10.out).mono ?_); rintro e w11 ⟨rfl, hE11⟩; have S11 := hide (S10.out.ext hE11); clear hE11; have k11 := hide (KX.out w11 S11.out.s.t))
        | (go_at_call 20; (with_reducible refine (k11.out).mono ?_); rintro e w12 ⟨x12, rfl, hx12, hT12, hU12⟩; obtain ⟨x, rfl⟩ := Int.eq_ofNat_of_zero_le hx12.1; have hx4 : x < 4 := (by have := hx12.2.1 (by omega); omega); have hcv : IntKind.u8.wrap (x : Int) = (x : Int) := (by rw [wrap_8]; omega); have hcv2 : (x : Int) % 256 = (x : Int) := (by omega); have hcw : Hid (∀ w, (convert 3 5 (.int .i64 (x : Int))).run Try.prog w = .ok (.int .u8 (x : Int)) w) := (hide (fun w => by go_simp)); have S12 := hide (S11.out.upd hU12 hT12); have e12 := ext_alloc w12 (.cells #[.int .u8 (x : Int), .int .u8 0] 5); have r12 := hide ((Hr.out.ext S12.out.s.e).ext e12); have K12 := hide (own_lit w12 [x, 0] (by intro q hq; simp at hq; omega) (by simp) #[.int .u8 (x : Int), .int .u8 0] rfl (n := 2) rfl); have hs12 := e12.size; have l8 := L8.out x; have h8 := hide (H8.out x); clear hx12 hT12 hU12 e12)
        | (refine wl_convq (by kernel_rfl) 3 5 (.tmp 68) rfl (.int .i64 (x : Int)) (.int .u8 (x : Int)) rfl (hcw.out _) ?_)
        | (at_builtin; refine wl_append8q (by kernel_rfl) (.tmp 70) (.tmp 71) rfl w12.heap.size _ [x, 0] lr rfl K12.out R cr capr rfl r12.out Hcr.out l8 hs12 ?_; intro v13 w13 hO13 hG13 hA13; have hx13 := ext_lit (ext_alloc w12 _) K12.out hG13; have S13 := hide (S12.out.ext hx13); obtain ⟨A13, c13, rfl, hle13, -, hb13⟩ := hO13.at_; rw [h8.out] at hle13 ⊢; have k13 := hide (KR.out A13 (2 + cr) c13 _ _ w13 hb13 h8.out hle13 (by omega) imm); clear hO13 hG13 hA13 hx13 hb13)
        | (go_at_call 18; (with_reducible refine (k13.out).mono ?_); rintro e w14 ⟨rfl, hE14⟩; have S14 := hide (S13.out.ext hE14); clear hE14; have k14 := hide (KR.out Ab z cb F _ w14 (bytes_of_own S14.out.b HF.out).1 HF.out hzb (by omega) isz))
        | (go_at_call 18; (with_reducible refine (k14.out).mono ?_); rintro e w16 ⟨rfl, hE16⟩; have S16 := hide (S14.out.ext hE16); clear hE16; have k16 := hide (t_spoiled W.heap.size W.heap.size Ab z cb F w16 S16.out.s.t (bytes_of_own S16.out.b HF.out).1 HF.out (by omega)))
        | (go_at_call 21; (with_reducible refine (k16.out).mono ?_); rintro e w17 ⟨As, ns, caps, ls, rfl, hls, hns1, hns3, hns2, hbs, hnew, hT17, hU17⟩; have S17 := hide (S16.out.upd hU17 hT17); have k17 := hide (KR.out As ns caps ls _ w17 hbs hls hns1 (by omega) isz); clear hls hbs hnew hT17 hU17)
        | (go_at_call 18; (with_reducible refine (k17.out).mono ?_); rintro e w20 ⟨rfl, hE20⟩; have S20 := hide (S17.out.ext hE20); clear hE20; have r20 := hide (Hr.out.ext S20.out.s.e); have hs20 := S20.out.bw)
        | (at_builtin; refine wl_append8q (by kernel_rfl) (.tmp 91) (.tmp 92) rfl B _ F lr rfl S20.out.b R cr capr rfl r20.out Hcr.out L4c hs20 ?_; intro v21 w21 hO21 hG21 hA21; have T21 := hide (S20.out.s.t.below (grown_below hG21 (W.heap.size + 1) (Nat.le_trans gb hs20) (fun k hk => Nat.le_trans gb (S20.out.b.1.lt k hk).1))); have E21 := hide (below_grown S20.out.s.e (Nat.le_of_lt gb) S20.out.b hG21); have O21 := hide hO21; have k21 := hide (KX2.out w21 T21.out); clear hO21 hG21 hA21)
        | (go_at_call 20; (with_reducible refine (k21.out).mono ?_); rintro e w22 ⟨z22, rfl, hz22, hT22, hU22⟩; have z22a := hz22.1; have z22b := hz22.2.1 (by omega); have i22 : I64 ((n : Int) + z22) := ⟨by omega, by omega⟩; have E22 := hide (Upd.ext hU22 E21.out (Nat.le_refl _)); obtain ⟨A22, c22, rfl, hle22, -, hb22⟩ := (O21.out.upd hU22 gb).at_; rw [H4c.out] at hle22 ⊢; have k22 := hide (KR.out A22 (z + cr) c22 _ _ w22 hb22 H4c.out hle22 (by omega) i22); clear hz22 hT22 hU22 hb22)
        | (go_at_call 18; (with_reducible refine (k22.out).mono ?_); rintro e w23 ⟨rfl, hE23⟩; have E23 := hide (Ext.trans E22.out hE23); clear hE23))
      go_ret
      exact ⟨rfl, E23.out⟩
end
section
open Go Go.RowKit
theorem run_uptoR (A : Option Addr) (n k cap : Nat) (hk : k ≤ cap) (w : World) : (Instr.slice 22 (.slice A n cap) none (some (.int .i64 (k : Int))) none).run Try.prog w = .ok (.slice A k cap) w := by
  have he : Try.prog.elem 22 = 2 := by kernel_rfl
  have hz := Try.sizeOf2
  rw [run_slice_h w 22 A n cap (by kernel_rfl) .i64 k (by omega) (by omega), he, hz]
  simp [Result.andThen, sliced]
  intro _
  cases A with
  | none => rfl
  | some a => simp [Addr.add]
set_option maxRecDepth 100000 in
set_option maxHeartbeats 6400000 in
theorem law_rback (A : Option Addr) (n c : Nat) (l : List Int) (y : Option Addr) (len cap4 : Nat) (A2 : Option Addr) (cu capu : Nat) (lu : List Nat) (A3 : Option Addr) (ct capt : Nat) (lt : List Nat) (W : World)
    (hl : TimesAt W A l) (hn : l.length = n) (hnc : n ≤ c) (hL : IsList W y len cap4)
    (hbu : BytesAt W A2 lu) (hcu : lu.length = cu) (hcu2 : cu ≤ 1048576) (hbt : BytesAt W A3 lt) (hct : lt.length = ct) (hct2 : ct ≤ 1048576) :
    Calls Try.prog 5 #[.slice A n c, .slice y len cap4, .slice A2 cu capu, .slice A3 ct capt] W (Ret (.bool true) W) := by
  have KN : Hid (Calls Try.prog 8 #[.slice y len cap4] W (NewPost W)) := t_new W y len cap4 hL
  have KL : Hid (∀ w, TapeOk W.heap.size w W.heap.size → Calls Try.prog 9 #[.pointer (some ⟨W.heap.size, 0, none⟩), .int .i64 25] w (ValsPost 25 W.heap.size W.heap.size w)) := hide (fun w h => t_values 25 W.heap.size W.heap.size (by omega) w h)
  have KK := hide (fun w => l_known11 w)
  have Hu := hide hbu
  have Ht := hide hbt
  have Hcu := hide hcu
  have Hct := hide hct
  have hn63 : n ≤ 9223372036854775807 := by have := hl.2.1; omega
  clear hL hbu hcu hbt hct
  by_cases hbig : 2000 < n
  · have d1 : decide ((2000 : Int) < (n : Int)) = true := decide_eq_true (by omega)
    have hsl := run_uptoR A n 2000 c (by omega)
    go_enter Try.func5, Try.ntmps5
    go_upto_region 3 with fail
    obtain ⟨nn, hnn⟩ : ∃ q : Nat, 2000 = q := ⟨_, rfl⟩
    have hsl2 : Value.slice A 2000 c = Value.slice A nn c := by rw [hnn]
    rw [hsl2]
    have HM : Hid (TimesAt W A (l.take 2000)) := hide (hl.take 2000)
    have HMl : Hid ((l.take 2000).length = nn) := hide (by rw [List.length_take]; omega)
    have hM2 : nn ≤ 2000 := by omega
    clear hsl hsl2 hnn hl hn hbig hnc d1
    go_upto_region 4 with (first
      | (go_at_call 8; (with_reducible refine (KN.out).mono ?_); rintro e w1 ⟨rfl, hT, hE⟩; have T1 := hide hT; have E1 := hide hE; have kl := hide (KL.out w1 hT); clear hT hE)
      | (go_at_call 9; (with_reducible refine (kl.out).mono ?_); rintro e w2 ⟨Am, nm, cm, m, rfl, hm, hm25, hmcap, hmcap2, hO, hT2, hU2⟩; have S2 := hide (Bt.of E1.out T1.out hO hT2 hU2); have Hm := hide hm; clear hO hT2 hU2 hmcap hmcap2 hm))
    have Q3 := Blk.new w2 22 #[.slice A nn c, .slice Am nm cm]
    have E3 := ext_alloc w2 (.cells #[.slice A nn c, .slice Am nm cm] 22)
    obtain ⟨w3, hw3⟩ : ∃ w, w2.alloc (.cells #[.slice A nn c, .slice Am nm cm] 22) = w := ⟨_, rfl⟩
    rw [hw3] at Q3 E3 ⊢
    obtain ⟨g, hg⟩ : ∃ q, w2.heap.size = q := ⟨_, rfl⟩
    rw [hg] at Q3 ⊢
    have Hx : Hid (∀ (wr : World) (k : Nat), Ext w3 wr → k < 2 → ∃ (A : Option Addr) (n c : Nat) (l : List Int), wr.cell? ⟨g, k, none⟩ = some (.slice A n c) ∧ TimesAt wr A l ∧ l.length = n ∧ n ≤ 2000) := hide (fun wr k hE hk => by
      have q1 := Q3.ext hE
      have E11 := Ext.trans E3 hE
      obtain rfl | rfl : k = 0 ∨ k = 1 := by omega
      · exact ⟨A, nn, c, l.take 2000, q1.cell 0, (HM.out.ext S2.out.e).ext E11, HMl.out, hM2⟩
      · exact ⟨Am, nm, cm, m, q1.cell 1, S2.out.times.ext E11, Hm.out, by omega⟩)
    have EW3 := hide (Ext.trans S2.out.e E3)
    have hl1 := Q3.lt
    clear hw3 hg Q3 E3 S2 KN KL kl T1 E1
    go_wp2_with fail
    go_loopw [10] (fun iv wr => ∃ k : Nat, k ≤ 2 ∧ iv = .int .i64 (k : Int) ∧ Hid (Ext w3 wr)) (fun iv _ => 2 - (intOf iv).toNat)
    case atStart => exact ⟨0, by omega, rfl, hide (Ext.refl _)⟩
    case round =>
      obtain ⟨k, hk, rfl, HE⟩ := hrel
      by_cases hlt : k < 2
      · have d0 : decide ((k : Int) < 2) = true := decide_eq_true (by omega)
        obtain ⟨A5, n5, c5, l5, hc1, hta, hln, hn5⟩ := Hx.out wr k HE.out hlt
        have ix1 := fun w => idxTT g 2 2 k hlt w
        have C1 := hide hc1
        have G1 := hide (show g < wr.heap.size from Nat.lt_of_lt_of_le hl1 HE.out.size)
        have HW := hide hta
        have Hn5 := hide hln
        have hlt5 : l5.length ≤ 65536 := by omega
        have hsz := cR_len hta.1 hlt5 0
        have hsz2 := bestR_le l5 0 (by omega)
        have HD : Hid (deR (lu ++ bestR l5 ++ lt) (cu : Int) (n5 : Int) = (l5, (cu : Int) + ((bestR l5).length : Int), 0)) := by
          have := deR_enc l5 lu lt hta.1 hlt5
          rw [enR_ok hlt5, Hcu.out, hln] at this
          exact this
        have K1 := p_encR A5 n5 c5 l5 wr hta hln
        rw [enR_ok hlt5] at K1
        simp only at K1
        obtain ⟨F, hF⟩ : ∃ F, bestR l5 = F := ⟨_, rfl⟩
        rw [hF] at HD hsz2 K1
        obtain ⟨z, hz⟩ : ∃ z, F.length = z := ⟨_, rfl⟩
        rw [hz] at hsz2 HD
        have hz2 : z ≤ 30000 := by omega
        have K1 : Hid (Calls Try.prog 10 #[.slice A5 n5 c5] wr fun e w' => ∃ A4 c4, e = .returned (.tuple #[.slice A4 z c4, .int .i64 0]) ∧ BytesAt w' A4 F ∧ Ext wr w') := hide (K1.mono fun e w' h => by
          obtain ⟨A4, c4, rfl, _, _, _, hb, hE⟩ := h.parts
          exact ⟨A4, c4, by rw [hz]; rfl, hb, hE⟩)
        have HF := hide hz
        have EW := hide (Ext.trans EW3.out HE.out)
        have hbu0 := hide (Hu.out.ext EW.out)
        have hbt0 := hide (Ht.out.ext EW.out)
        clear hta hln hlt5 hsz hsz2 hF hz
        go_upto_region 8 with (go_at_call 10; (with_reducible refine (K1.out).mono ?_); rintro e z3 ⟨A4, c4, rfl, hb3, hE3⟩; have X3 := hide hE3; have b3 := hide hb3; clear hb3 hE3)
        have E4 : Hid (Ext z3 (z3.alloc (.cells #[] 5))) := ext_alloc z3 _
        have O4 := hide (own_of (B := z3.heap.size) (w := z3.alloc (.cells #[] 5)) (g := z3.heap.size) (n := 0) (cap := 0) (l := []) (m := []) (Nat.le_refl _) (heap_alloc_new z3 _) rfl rfl (by omega) IsB.nil)
        have hs4 := hide E4.out.size
        have hbu3 := hide (hbu0.out.ext X3.out)
        have hbt3 := hide (hbt0.out.ext X3.out)
        have hbu4 := hide (hbu3.out.ext E4.out)
        have hle0 : ([] : List Nat).length + lu.length ≤ 140737488355328 := by rw [Hcu.out]; simp; omega
        have hle3 : ([] ++ lu : List Nat).length + F.length ≤ 140737488355328 := by rw [List.nil_append, Hcu.out, HF.out]; omega
        have hle4 : ([] ++ lu ++ F : List Nat).length + lt.length ≤ 140737488355328 := by rw [List.nil_append, List.length_append, Hcu.out, HF.out, Hct.out]; omega
        have H5 : Hid (([] ++ lu ++ F ++ lt).length = cu + z + ct) := by show _ = _; rw [List.nil_append, List.length_append, List.length_append, Hcu.out, HF.out, Hct.out]
        go_upto_region 9 with (first
          | (at_builtin; refine wl_append8 rfl (.tmp 39) (.tmp 40) rfl z3.heap.size (.slice (some ⟨z3.heap.size, 0, none⟩) 0 0) [] lu rfl O4.out A2 cu capu rfl hbu4.out Hcu.out hle0 hs4.out ?_; intro v5 w5 hO5 hG5 _; have E5 := hide (below_grown E4.out (Nat.le_refl _) O4.out hG5); have O5 := hide hO5; have hs5 := hide E5.out.size; have b5 := hide (b3.out.ext E5.out); clear hG5 hO5)
          | (at_builtin; refine wl_append8 rfl (.tmp 41) (.tmp 42) rfl z3.heap.size v5 ([] ++ lu) F rfl O5.out A4 z c4 rfl b5.out HF.out hle3 hs5.out ?_; intro v6 w6 hO6 hG6 _; have E6 := hide (below_grown E5.out (Nat.le_refl _) O5.out hG6); have O6 := hide hO6; have hs6 := hide E6.out.size; have b6 := hide (hbt3.out.ext E6.out); clear hG6 hO6)
          | (at_builtin; refine wl_append8 rfl (.tmp 43) (.tmp 44) rfl z3.heap.size v6 ([] ++ lu ++ F) lt rfl O6.out A3 ct capt rfl b6.out Hct.out hle4 hs6.out ?_; intro v7 w7 hO7 hG7 _; have E7 := hide (below_grown E6.out (Nat.le_refl _) O6.out hG7); have O7 := hide hO7; clear hG7 hO7))
        obtain ⟨A7, c7, rfl, hle7, -, hb7⟩ := O7.out.at_
        rw [H5.out] at hle7 ⊢
        have X7 := hide (Ext.trans X3.out E7.out)
        have hc1 := (X7.out.cell (p := ⟨g, k, none⟩) G1.out).trans C1.out
        have i1 : I64 (cu : Int) := ⟨by omega, by omega⟩
        have i2 : I64 (n5 : Int) := ⟨by omega, by omega⟩
        have KD : Hid (Calls Try.prog 22 #[.slice A7 (cu + z + ct) c7, .int .i64 (cu : Int), .int .i64 (n5 : Int)] w7 fun e w' => ∃ A8 c8, e = .returned (.tuple #[.slice A8 n5 c8, .int .i64 ((cu : Int) + (z : Int)), .int .i64 0]) ∧ TimesAt w' A8 l5 ∧ Ext w7 w') := hide ((p_deR A7 (cu + z + ct) c7 ([] ++ lu ++ F ++ lt) (cu : Int) (n5 : Int) w7 hb7 H5.out hle7 (by omega) i1 i2 (l5, (cu : Int) + (z : Int), 0) (by rw [List.nil_append]; exact HD.out)).mono fun e w' h => by
          obtain ⟨A8, c8, rfl, _, _, _, hw, hE⟩ := h.parts
          exact ⟨A8, c8, by simp only [Hn5.out], hw, hE⟩)
        clear O4 O5 O6 O7 E4 E5 E6 E7 b3 b5 b6 hb7 hbu3 hbu4 hbt3 hs4 hs5 hs6 hle0 hle3 hle4 HD X3 hbu0 hbt0 K1
        have KS : Hid (∀ A8 c8 w, Ext wr w → TimesAt w A8 l5 → Calls Try.prog 23 #[.slice A5 n5 c5, .slice A8 n5 c8] w (Ret (.bool true) w)) := hide (fun A8 c8 w hE h => t_same A5 A8 n5 n5 c5 c8 l5 l5 w (HW.out.ext hE) h Hn5.out Hn5.out true (by simp))
        have de : ((cu : Int) + (z : Int) != (cu : Int) + (z : Int)) = false := by simp
        go_wp2_with (first
          | (go_at_call 22; (with_reducible refine (KD.out).mono ?_); rintro e z8 ⟨A8, c8, rfl, hb8, hE8⟩; have X8 := hide (Ext.trans X7.out hE8); have hc1 := (X8.out.cell (p := ⟨g, k, none⟩) G1.out).trans C1.out; have ks := hide (KS.out A8 c8 z8 X8.out hb8); clear hb8 hE8)
          | (go_at_call 23; (with_reducible refine (ks.out).mono ?_); rintro e z10 ⟨rfl, hE10⟩; have X10 := hide (Ext.trans HE.out (Ext.trans X8.out hE10)); clear hE10))
        go_roundw
        case rel => exact ⟨k + 1, by omega, by go_num, X10⟩
        case measure => simp [intOf]; omega
      · obtain rfl : k = 2 := by omega
        go_wp2_with (go_at_call 16; (with_reducible refine (KK.out _).mono ?_); rintro e z7 ⟨rfl, hE7⟩; have X7 := hide (Ext.trans EW3.out (Ext.trans HE.out hE7)); clear hE7)
        go_ret
        exact ⟨rfl, X7.out⟩
  · have d1 : decide ((2000 : Int) < (n : Int)) = false := decide_eq_false (by omega)
    have HM := hide hl
    have HMl := hide hn
    have hM2 : n ≤ 2000 := by omega
    clear hl hn hnc hbig
    go_enter Try.func5, Try.ntmps5
    go_upto_region 3 with fail
    go_upto_region 4 with (first
      | (go_at_call 8; (with_reducible refine (KN.out).mono ?_); rintro e w1 ⟨rfl, hT, hE⟩; have T1 := hide hT; have E1 := hide hE; have kl := hide (KL.out w1 hT); clear hT hE)
      | (go_at_call 9; (with_reducible refine (kl.out).mono ?_); rintro e w2 ⟨Am, nm, cm, m, rfl, hm, hm25, hmcap, hmcap2, hO, hT2, hU2⟩; have S2 := hide (Bt.of E1.out T1.out hO hT2 hU2); have Hm := hide hm; clear hO hT2 hU2 hmcap hmcap2 hm))
    have Q3 := Blk.new w2 22 #[.slice A n c, .slice Am nm cm]
    have E3 := ext_alloc w2 (.cells #[.slice A n c, .slice Am nm cm] 22)
    obtain ⟨w3, hw3⟩ : ∃ w, w2.alloc (.cells #[.slice A n c, .slice Am nm cm] 22) = w := ⟨_, rfl⟩
    rw [hw3] at Q3 E3 ⊢
    obtain ⟨g, hg⟩ : ∃ q, w2.heap.size = q := ⟨_, rfl⟩
    rw [hg] at Q3 ⊢
    have Hx : Hid (∀ (wr : World) (k : Nat), Ext w3 wr → k < 2 → ∃ (A : Option Addr) (n c : Nat) (l : List Int), wr.cell? ⟨g, k, none⟩ = some (.slice A n c) ∧ TimesAt wr A l ∧ l.length = n ∧ n ≤ 2000) := hide (fun wr k hE hk => by
      have q1 := Q3.ext hE
      have E11 := Ext.trans E3 hE
      obtain rfl | rfl : k = 0 ∨ k = 1 := by omega
      · exact ⟨A, n, c, l, q1.cell 0, (HM.out.ext S2.out.e).ext E11, HMl.out, hM2⟩
      · exact ⟨Am, nm, cm, m, q1.cell 1, S2.out.times.ext E11, Hm.out, by omega⟩)
    have EW3 := hide (Ext.trans S2.out.e E3)
    have hl1 := Q3.lt
    clear hw3 hg Q3 E3 S2 KN KL kl T1 E1
    go_wp2_with fail
    go_loopw [10] (fun iv wr => ∃ k : Nat, k ≤ 2 ∧ iv = .int .i64 (k : Int) ∧ Hid (Ext w3 wr)) (fun iv _ => 2 - (intOf iv).toNat)
    case atStart => exact ⟨0, by omega, rfl, hide (Ext.refl _)⟩
    case round =>
      obtain ⟨k, hk, rfl, HE⟩ := hrel
      by_cases hlt : k < 2
      · have d0 : decide ((k : Int) < 2) = true := decide_eq_true (by omega)
        obtain ⟨A5, n5, c5, l5, hc1, hta, hln, hn5⟩ := Hx.out wr k HE.out hlt
        have ix1 := fun w => idxTT g 2 2 k hlt w
        have C1 := hide hc1
        have G1 := hide (show g < wr.heap.size from Nat.lt_of_lt_of_le hl1 HE.out.size)
        have HW := hide hta
        have Hn5 := hide hln
        have hlt5 : l5.length ≤ 65536 := by omega
        have hsz := cR_len hta.1 hlt5 0
        have hsz2 := bestR_le l5 0 (by omega)
        have HD : Hid (deR (lu ++ bestR l5 ++ lt) (cu : Int) (n5 : Int) = (l5, (cu : Int) + ((bestR l5).length : Int), 0)) := by
          have := deR_enc l5 lu lt hta.1 hlt5
          rw [enR_ok hlt5, Hcu.out, hln] at this
          exact this
        have K1 := p_encR A5 n5 c5 l5 wr hta hln
        rw [enR_ok hlt5] at K1
        simp only at K1
        obtain ⟨F, hF⟩ : ∃ F, bestR l5 = F := ⟨_, rfl⟩
        rw [hF] at HD hsz2 K1
        obtain ⟨z, hz⟩ : ∃ z, F.length = z := ⟨_, rfl⟩
        rw [hz] at hsz2 HD
        have hz2 : z ≤ 30000 := by omega
        have K1 : Hid (Calls Try.prog 10 #[.slice A5 n5 c5] wr fun e w' => ∃ A4 c4, e = .returned (.tuple #[.slice A4 z c4, .int .i64 0]) ∧ BytesAt w' A4 F ∧ Ext wr w') := hide (K1.mono fun e w' h => by
          obtain ⟨A4, c4, rfl, _, _, _, hb, hE⟩ := h.parts
          exact ⟨A4, c4, by rw [hz]; rfl, hb, hE⟩)
        have HF := hide hz
        have EW := hide (Ext.trans EW3.out HE.out)
        have hbu0 := hide (Hu.out.ext EW.out)
        have hbt0 := hide (Ht.out.ext EW.out)
        clear hta hln hlt5 hsz hsz2 hF hz
        go_upto_region 8 with (go_at_call 10; (with_reducible refine (K1.out).mono ?_); rintro e z3 ⟨A4, c4, rfl, hb3, hE3⟩; have X3 := hide hE3; have b3 := hide hb3; clear hb3 hE3)
        have E4 : Hid (Ext z3 (z3.alloc (.cells #[] 5))) := ext_alloc z3 _
        have O4 := hide (own_of (B := z3.heap.size) (w := z3.alloc (.cells #[] 5)) (g := z3.heap.size) (n := 0) (cap := 0) (l := []) (m := []) (Nat.le_refl _) (heap_alloc_new z3 _) rfl rfl (by omega) IsB.nil)
        have hs4 := hide E4.out.size
        have hbu3 := hide (hbu0.out.ext X3.out)
        have hbt3 := hide (hbt0.out.ext X3.out)
        have hbu4 := hide (hbu3.out.ext E4.out)
        have hle0 : ([] : List Nat).length + lu.length ≤ 140737488355328 := by rw [Hcu.out]; simp; omega
        have hle3 : ([] ++ lu : List Nat).length + F.length ≤ 140737488355328 := by rw [List.nil_append, Hcu.out, HF.out]; omega
        have hle4 : ([] ++ lu ++ F : List Nat).length + lt.length ≤ 140737488355328 := by rw [List.nil_append, List.length_append, Hcu.out, HF.out, Hct.out]; omega
        have H5 : Hid (([] ++ lu ++ F ++ lt).length = cu + z + ct) := by show _ = _; rw [List.nil_append, List.length_append, List.length_append, Hcu.out, HF.out, Hct.out]
        go_upto_region 9 with (first
          | (at_builtin; refine wl_append8 rfl (.tmp 39) (.tmp 40) rfl z3.heap.size (.slice (some ⟨z3.heap.size, 0, none⟩) 0 0) [] lu rfl O4.out A2 cu capu rfl hbu4.out Hcu.out hle0 hs4.out ?_; intro v5 w5 hO5 hG5 _; have E5 := hide (below_grown E4.out (Nat.le_refl _) O4.out hG5); have O5 := hide hO5; have hs5 := hide E5.out.size; have b5 := hide (b3.out.ext E5.out); clear hG5 hO5)
          | (at_builtin; refine wl_append8 rfl (.tmp 41) (.tmp 42) rfl z3.heap.size v5 ([] ++ lu) F rfl O5.out A4 z c4 rfl b5.out HF.out hle3 hs5.out ?_; intro v6 w6 hO6 hG6 _; have E6 := hide (below_grown E5.out (Nat.le_refl _) O5.out hG6); have O6 := hide hO6; have hs6 := hide E6.out.size; have b6 := hide (hbt3.out.ext E6.out); clear hG6 hO6)
          | (at_builtin; refine wl_append8 rfl (.tmp 43) (.tmp 44) rfl z3.heap.size v6 ([] ++ lu ++ F) lt rfl O6.out A3 ct capt rfl b6.out Hct.out hle4 hs6.out ?_; intro v7 w7 hO7 hG7 _; have E7 := hide (below_grown E6.out (Nat.le_refl _) O6.out hG7); have O7 := hide hO7; clear hG7 hO7))
        obtain ⟨A7, c7, rfl, hle7, -, hb7⟩ := O7.out.at_
        rw [H5.out] at hle7 ⊢
        have X7 := hide (Ext.trans X3.out E7.out)
        have hc1 := (X7.out.cell (p := ⟨g, k, none⟩) G1.out).trans C1.out
        have i1 : I64 (cu : Int) := ⟨by omega, by omega⟩
        have i2 : I64 (n5 : Int) := ⟨by omega, by omega⟩
        have KD : Hid (Calls Try.prog 22 #[.slice A7 (cu + z + ct) c7, .int .i64 (cu : Int), .int .i64 (n5 : Int)] w7 fun e w' => ∃ A8 c8, e = .returned (.tuple #[.slice A8 n5 c8, .int .i64 ((cu : Int) + (z : Int)), .int .i64 0]) ∧ TimesAt w' A8 l5 ∧ Ext w7 w') := hide ((p_deR A7 (cu + z + ct) c7 ([] ++ lu ++ F ++ lt) (cu : Int) (n5 : Int) w7 hb7 H5.out hle7 (by omega) i1 i2 (l5, (cu : Int) + (z : Int), 0) (by rw [List.nil_append]; exact HD.out)).mono fun e w' h => by
          obtain ⟨A8, c8, rfl, _, _, _, hw, hE⟩ := h.parts
          exact ⟨A8, c8, by simp only [Hn5.out], hw, hE⟩)
        clear O4 O5 O6 O7 E4 E5 E6 E7 b3 b5 b6 hb7 hbu3 hbu4 hbt3 hs4 hs5 hs6 hle0 hle3 hle4 HD X3 hbu0 hbt0 K1
        have KS : Hid (∀ A8 c8 w, Ext wr w → TimesAt w A8 l5 → Calls Try.prog 23 #[.slice A5 n5 c5, .slice A8 n5 c8] w (Ret (.bool true) w)) := hide (fun A8 c8 w hE h => t_same A5 A8 n5 n5 c5 c8 l5 l5 w (HW.out.ext hE) h Hn5.out Hn5.out true (by simp))
        have de : ((cu : Int) + (z : Int) != (cu : Int) + (z : Int)) = false := by simp
        go_wp2_with (first
          | (go_at_call 22; (with_reducible refine (KD.out).mono ?_); rintro e z8 ⟨A8, c8, rfl, hb8, hE8⟩; have X8 := hide (Ext.trans X7.out hE8); have hc1 := (X8.out.cell (p := ⟨g, k, none⟩) G1.out).trans C1.out; have ks := hide (KS.out A8 c8 z8 X8.out hb8); clear hb8 hE8)
          | (go_at_call 23; (with_reducible refine (ks.out).mono ?_); rintro e z10 ⟨rfl, hE10⟩; have X10 := hide (Ext.trans HE.out (Ext.trans X8.out hE10)); clear hE10))
        go_roundw
        case rel => exact ⟨k + 1, by omega, by go_num, X10⟩
        case measure => simp [intOf]; omega
      · obtain rfl : k = 2 := by omega
        go_wp2_with (go_at_call 16; (with_reducible refine (KK.out _).mono ?_); rintro e z7 ⟨rfl, hE7⟩; have X7 := hide (Ext.trans EW3.out (Ext.trans HE.out hE7)); clear hE7)
        go_ret
        exact ⟨rfl, X7.out⟩
end
section
open Go Go.RowKit
set_option maxRecDepth 100000 in
set_option maxHeartbeats 64000000 in
theorem law_rcanon (R : Option Addr) (cr capr : Nat) (lr : List Nat) (nn : Int) (y : Option Addr) (len cap4 : Nat) (W : World)
    (hbr : BytesAt W R lr) (hcr : lr.length = cr) (hcr1 : cr ≤ capr) (hcr2 : capr ≤ 140737488351232) (hnn : I64 nn) (hL : IsList W y len cap4) :
    Calls Try.prog 6 #[.slice R cr capr, .int .i64 nn, .slice y len cap4] W (Ret (.bool true) W) := by
  have KN : Hid (Calls Try.prog 8 #[.slice y len cap4] W (NewPost W)) := t_new W y len cap4 hL
  have KL : Hid (∀ w, TapeOk W.heap.size w W.heap.size → Calls Try.prog 9 #[.pointer (some ⟨W.heap.size, 0, none⟩), .int .i64 20] w (ValsPost 20 W.heap.size W.heap.size w)) := hide (fun w h => t_values 20 W.heap.size W.heap.size (by omega) w h)
  have KK := hide (fun w => l_known11 w)
  have i15 : I64 15 := ⟨by omega, by omega⟩
  have i3 : I64 3 := ⟨by omega, by omega⟩
  have i0 : I64 0 := ⟨by omega, by omega⟩
  have KM := hide (fun w => t_modI nn 15 w hnn i15)
  have KX : Hid (∀ w, TapeOk W.heap.size w W.heap.size → Calls Try.prog 20 #[.pointer (some ⟨W.heap.size, 0, none⟩), .int .i64 3] w (NextPost W.heap.size W.heap.size (InN 3) .i64 w)) := hide (fun w h => t_next W.heap.size W.heap.size 3 w i3 h)
  have Hr := hide hbr
  have Hcr := hide hcr
  clear hL hbr hcr
  go_enter Try.func6, Try.ntmps6
  go_upto_region 3 with (first
    | (go_at_call 8; (with_reducible refine (KN.out).mono ?_); rintro e w1 ⟨rfl, hT, hE⟩; have T1 := hide hT; have E1 := hide hE; have kl := hide (KL.out w1 hT); clear hT hE)
    | (go_at_call 9; (with_reducible refine (kl.out).mono ?_); rintro e w2 ⟨Am, n, cap, m, rfl, hn, hn20, hncap, hncap2, hO, hT2, hU2⟩; have hB2 : w1.heap.size ≤ w2.heap.size := hU2.2.2.2.1; have S2 := hide (Bt.of E1.out T1.out hO hT2 hU2); clear hO hT2 hU2 hncap hncap2))
  obtain ⟨B, hB⟩ : ∃ B, w1.heap.size = B := ⟨_, rfl⟩
  rw [hB] at S2 hB2
  have hq := S2.out.o.2
  have hln : m.length ≤ 65536 := by omega
  have hsz := cR_len hq hln 0
  have hsz2 := bestR_le m 0 (by omega)
  obtain ⟨F, hF⟩ : ∃ F, bestR m = F := ⟨_, rfl⟩
  rw [hF] at hsz2
  obtain ⟨z, hz⟩ : ∃ z, F.length = z := ⟨_, rfl⟩
  rw [hz] at hsz2
  have hz2 : z ≤ 1000 := by omega
  have KE : Hid (Calls Try.prog 10 #[.slice Am n cap] w2 fun e w' => ∃ Ab cb, e = .returned (.tuple #[.slice Ab z cb, .int .i64 0]) ∧ z ≤ cb ∧ cb ≤ 9223372036854775807 ∧ OwnB B w' (.slice Ab z cb) F ∧ Ext w2 w') := hide ((p_encR Am n cap m w2 S2.out.times hn).mono fun e w' h => by
    rw [enR_ok hln] at h
    obtain ⟨Ab, cb, rfl, h1, h2, ho, _, hE⟩ := h.parts
    simp only [hF, hz] at h1 ho
    exact ⟨Ab, cb, by simp only [hF, hz]; rfl, h1, h2, ho.less hB2, hE⟩)
  have HF := hide hz
  have isz : I64 (n : Int) := ⟨by omega, by omega⟩
  clear hB KN KL kl T1 E1 hn hq hln hsz hsz2 hF hz
  go_upto_region 4 with (go_at_call 10; (with_reducible refine (KE.out).mono ?_); rintro e w3 ⟨Ab, cb, rfl, hzb, hzb2, hO3, hE3⟩; have S3 := hide (show Nt W B Am n cap m Ab z cb F w3 from ⟨S2.out.ext hE3, hO3, Nat.le_trans hB2 hE3.size⟩); clear hE3 hO3)
  have gb := S3.out.s.gb
  clear KE S2
  go_upto_region 5 with (go_at_call 19; (with_reducible refine (KM.out _).mono ?_); rintro e w4 ⟨mm, rfl, hmm, rfl⟩; have m0 := hmm.1; have m1 := hmm.2.1 (by omega); have imm : I64 mm := ⟨by omega, by omega⟩; clear hmm)
  have H8 : Hid (∀ x : Nat, ([x, 0] ++ lr).length = 2 + cr) := hide (fun x => by rw [List.length_append, Hcr.out]; rfl)
  have L8 : Hid (∀ x : Nat, ([x, 0] : List Nat).length + lr.length ≤ 225179981368000) := hide (fun x => by rw [Hcr.out]; simp; omega)
  have k5 := hide (KX.out w3 S3.out.s.t)
  go_upto_region 6 with (first
    | (go_at_call 20; (with_reducible refine (k5.out).mono ?_); rintro e w5 ⟨x5, rfl, hx5, hT5, hU5⟩; obtain ⟨x, rfl⟩ := Int.eq_ofNat_of_zero_le hx5.1; have hx8 : x < 3 := (by have := hx5.2.1 (by omega); omega); have hcv : IntKind.u8.wrap (x : Int) = (x : Int) := (by rw [wrap_8]; omega); have hcv2 : (x : Int) % 256 = (x : Int) := (by omega); have S5 := hide (S3.out.upd hU5 hT5); have e5 := ext_alloc w5 (.cells #[.int .u8 (x : Int), .int .u8 0] 5); have r5 := hide ((Hr.out.ext S5.out.s.e).ext e5); have K5 := hide (own_lit w5 [x, 0] (by intro q hq; simp at hq; omega) (by simp) #[.int .u8 (x : Int), .int .u8 0] rfl (n := 2) rfl); have hs5 := e5.size; have l8 := L8.out x; have h8 := hide (H8.out x); have hgW : W.heap.size < w5.heap.size := (Nat.lt_of_lt_of_le gb S5.out.bw); clear hx5 hT5 hU5 e5)
    | (at_builtin; refine wl_append8q (by kernel_rfl) (.tmp 35) (.tmp 36) rfl w5.heap.size _ [x, 0] lr rfl K5.out R cr capr rfl r5.out Hcr.out l8 hs5 ?_; intro v6 w6 hO6 hG6 hA6; have hx6 := ext_lit (ext_alloc w5 _) K5.out hG6; have S6 := hide (S5.out.ext hx6); obtain ⟨A6, c6, rfl, hle6, hlf6, -⟩ := hO6.at_; rw [h8.out] at hle6 hO6 ⊢; have O6 := hide hO6; have k6 := hide (t_spoiled W.heap.size W.heap.size Ab z cb F w6 S6.out.s.t (bytes_of_own S6.out.b HF.out).1 HF.out (by omega)); clear hG6 hA6 hx6 hO6)
    | (go_at_call 21; (with_reducible refine (k6.out).mono ?_); rintro e w8 ⟨As, ns, caps, ls, rfl, hls, hns1, hns3, hns2, hbs, hnew, hT8, hU8⟩; have S8 := hide (S6.out.upd hU8 hT8); have Hls := hide hls; have bs8 := hide hbs; have b8 := hide (bytes_of_own (O6.out.upd hU8 hgW) h8.out).1; clear hls hbs hnew hT8 hU8))
  have Q9 := Blk.new w8 28 #[.slice R cr capr, .slice A6 (2 + cr) c6, .slice As ns caps, .slice Ab z cb]
  have E9 := ext_alloc w8 (.cells #[.slice R cr capr, .slice A6 (2 + cr) c6, .slice As ns caps, .slice Ab z cb] 28)
  obtain ⟨w9, hw9⟩ : ∃ w, w8.alloc (.cells #[.slice R cr capr, .slice A6 (2 + cr) c6, .slice As ns caps, .slice Ab z cb] 28) = w := ⟨_, rfl⟩
  rw [hw9] at Q9 E9 ⊢
  obtain ⟨g1, hg1⟩ : ∃ q, w8.heap.size = q := ⟨_, rfl⟩
  rw [hg1] at Q9 ⊢
  have Q9 := hide Q9
  have E9 := hide E9
  clear hw9 hg1 K5 r5 S3 S5 S6 k5 k6 O6 KM KX hs5
  go_upto_region 7 with fail
  have Q10 := Blk.new w9 3 #[.int .i64 mm, .int .i64 mm, .int .i64 (n : Int), .int .i64 (n : Int)]
  have E10 := ext_alloc w9 (.cells #[.int .i64 mm, .int .i64 mm, .int .i64 (n : Int), .int .i64 (n : Int)] 3)
  obtain ⟨w10, hw10⟩ : ∃ w, w9.alloc (.cells #[.int .i64 mm, .int .i64 mm, .int .i64 (n : Int), .int .i64 (n : Int)] 3) = w := ⟨_, rfl⟩
  rw [hw10] at Q10 E10 ⊢
  obtain ⟨g2, hg2⟩ : ∃ q, w9.heap.size = q := ⟨_, rfl⟩
  rw [hg2] at Q10 ⊢
  have Q11 := Q9.out.ext E10
  have E11 := Ext.trans E9.out E10
  have S11 := hide (S8.out.ext E11)
  have Hx : Hid (∀ (wr : World) (k : Nat), Ext w10 wr → k < 4 → ∃ (A : Option Addr) (c cap : Nat) (b : List Nat) (x : Int), wr.cell? ⟨g1, k, none⟩ = some (.slice A c cap) ∧ wr.cell? ⟨g2, k, none⟩ = some (.int .i64 x) ∧ BytesAt wr A b ∧ b.length = c ∧ c ≤ cap ∧ c ≤ 4611686018427387904 ∧ I64 x) := hide (fun wr k hE hk => by
    have q1 := Q11.ext hE
    have q2 := Q10.ext hE
    obtain rfl | rfl | rfl | rfl : k = 0 ∨ k = 1 ∨ k = 2 ∨ k = 3 := by omega
    · exact ⟨R, cr, capr, lr, mm, q1.cell 0, q2.cell 0, (Hr.out.ext S11.out.s.e).ext hE, Hcr.out, hcr1, by omega, imm⟩
    · exact ⟨A6, 2 + cr, c6, _, mm, q1.cell 1, q2.cell 1, (b8.out.ext E11).ext hE, h8.out, hle6, by omega, imm⟩
    · exact ⟨As, ns, caps, ls, n, q1.cell 2, q2.cell 2, (bs8.out.ext E11).ext hE, Hls.out, hns1, by omega, isz⟩
    · exact ⟨Ab, z, cb, F, n, q1.cell 3, q2.cell 3, (bytes_of_own S11.out.b HF.out).1.ext hE, HF.out, hzb, by omega, isz⟩)
  have hl1 := Q11.lt
  have hl2 := Q10.lt
  clear hw10 hg2 Q9 Q10 Q11 E9 E10 E11 S8 bs8 b8
  go_wp2_with fail
  go_loopw [14] (fun iv wr => ∃ k : Nat, k ≤ 4 ∧ iv = .int .i64 (k : Int) ∧ Hid (Ext w10 wr)) (fun iv _ => 4 - (intOf iv).toNat)
  case atStart => exact ⟨0, by omega, rfl, hide (Ext.refl _)⟩
  case round =>
    obtain ⟨k, hk, rfl, HE⟩ := hrel
    by_cases hlt : k < 4
    · have d0 : decide ((k : Int) < 4) = true := decide_eq_true (by omega)
      obtain ⟨A, c, cap5, b, x5, hc1, hc2, hb, hbl, hbc, hbc2, hx5⟩ := Hx.out wr k HE.out hlt
      have ix1 := idxBB g1 4 4 k hlt
      have ix2 := idxII g2 4 4 k hlt
      have C1 := hide hc1
      have G1 := hide (show g1 < wr.heap.size from Nat.lt_of_lt_of_le hl1 HE.out.size)
      have G2 := hide (show g2 < wr.heap.size from Nat.lt_of_lt_of_le hl2 HE.out.size)
      have C2 := hide hc2
      obtain ⟨L, nx, e1, hR⟩ : ∃ L nx e1, deR b 0 x5 = (L, nx, e1) := ⟨_, _, _, rfl⟩
      obtain ⟨mL, hmL⟩ : ∃ mL, L.length = mL := ⟨_, rfl⟩
      have EE : Hid (Ext wr wr) := Ext.refl _
      have KD : Hid (∀ w, Ext wr w → Calls Try.prog 22 #[.slice A c cap5, .int .i64 0, .int .i64 x5] w fun e w' => ∃ A3 c3, e = .returned (.tuple #[.slice A3 mL c3, .int .i64 nx, .int .i64 e1]) ∧ TimesAt w' A3 L ∧ Ext w w') := hide (fun w hE => (p_deR A c cap5 b 0 x5 w (hb.ext hE) hbl hbc hbc2 i0 hx5 _ hR).mono fun e w' h => by
        obtain ⟨A3, c3, rfl, _, _, _, hw, hE⟩ := h.parts
        exact ⟨A3, c3, by rw [hmL], hw, hE⟩)
      by_cases he : e1 = 0
      · subst he
        obtain ⟨hq, h1, h2, _, h3, h4, h5, hok⟩ := deR_canon hR
        obtain ⟨x, rfl⟩ := Int.eq_ofNat_of_zero_le (show 0 ≤ nx by omega)
        rw [show (0 : Int).toNat = 0 from rfl, List.drop_zero, Int.toNat_natCast, Nat.sub_zero] at h5
        have hxc : x ≤ c := by omega
        have hbx := hide (hb.take x)
        have hbxl : (b.take x).length = x := by rw [List.length_take]; omega
        obtain ⟨q, hqq⟩ : ∃ q, b.take x = q := ⟨_, rfl⟩
        rw [hqq] at hbx hbxl h5
        have KE : Hid (∀ A3 c3 w, TimesAt w A3 L → Calls Try.prog 10 #[.slice A3 mL c3] w fun e w' => ∃ A4 c4, e = .returned (.tuple #[.slice A4 x c4, .int .i64 0]) ∧ BytesAt w' A4 q ∧ Ext w w') := hide (fun A3 c3 w hw => (p_encR A3 mL c3 L w hw hmL).mono fun e w' h => by
          obtain ⟨A4, c4, rfl, _, _, _, h3, hE⟩ := h.parts
          rw [h5] at h3
          exact ⟨A4, c4, by rw [h5, hbxl, hok]; rfl, h3, hE⟩)
        have KS : Hid (∀ A4 c4 w, Ext wr w → BytesAt w A4 q → Calls Try.prog 12 #[.slice A4 x c4, .slice A x cap5] w (Ret (.bool true) w)) := hide (fun A4 c4 w hw h => r_same A4 A x x c4 cap5 q q w h (hbx.out.ext hw) hbxl hbxl true (by simp))
        have hup := run_upto A c x cap5 (by omega)
        have d3 : decide ((c : Int) < (x : Int)) = false := decide_eq_false (by omega)
        have d4 : decide (c < x) = false := decide_eq_false (by omega)
        clear hb hbl hbc hbc2 hR hmL hq h1 h2 h3 h4 h5 hok hbxl hqq hbx
        go_upto_region 10 with fail
        go_region_held3 (fun w' => w'.cell? ⟨g1, k, none⟩ = some (.slice A c cap5) ∧ w'.cell? ⟨g2, k, none⟩ = some (.int .i64 x5)) (first | (with_reducible exact ⟨hc1, hc2⟩) | go_keep) (first
          | (go_at_call 22; (with_reducible refine (KD.out _ (by first | exact EE.out | exact (Ext.trans EE.out (ext_drew _)))).mono ?_); rintro e z1 ⟨A3, c3, rfl, hw3, hE⟩; have EE : Hid (Ext wr z1) := (by first | exact hide (EE.out.trans hE) | exact hide ((EE.out.trans (ext_drew _)).trans hE)); have hc1 := (EE.out.cell (p := ⟨g1, k, none⟩) G1.out).trans C1.out; have hc2 := (EE.out.cell (p := ⟨g2, k, none⟩) G2.out).trans C2.out; have ke := hide (KE.out A3 c3 z1 hw3); clear hE hw3))
        go_wp2_with (first
          | (go_at_call 10; (with_reducible refine (ke.out).mono ?_); rintro e z2 ⟨A4, c4, rfl, hb4, hE⟩; have EE2 := hide (EE.out.trans hE); have hc1 := (EE2.out.cell (p := ⟨g1, k, none⟩) G1.out).trans C1.out; have ks := hide (KS.out A4 c4 z2 EE2.out hb4); clear hE hb4)
          | (go_at_call 12; (with_reducible refine (ks.out).mono ?_); rintro e z3 ⟨rfl, hE⟩; have EE3 := hide (EE2.out.trans hE); clear hE))
        have HE2 := hide (Ext.trans HE.out EE3.out)
        go_roundw
        case rel => exact ⟨k + 1, by omega, by go_num, HE2⟩
        case measure => simp [intOf]; omega
      · have d3 : (e1 != 0) = true := by rw [bne_iff_ne]; exact he
        clear hb hbl hbc hbc2 hR hmL he
        go_upto_region 10 with fail
        go_region_held3 (fun w' => w'.cell? ⟨g1, k, none⟩ = some (.slice A c cap5) ∧ w'.cell? ⟨g2, k, none⟩ = some (.int .i64 x5)) (first | (with_reducible exact ⟨hc1, hc2⟩) | go_keep) (first
          | (go_at_call 22; (with_reducible refine (KD.out _ (by first | exact EE.out | exact (Ext.trans EE.out (ext_drew _)))).mono ?_); rintro e z1 ⟨A3, c3, rfl, hw3, hE⟩; have EE : Hid (Ext wr z1) := (by first | exact hide (EE.out.trans hE) | exact hide ((EE.out.trans (ext_drew _)).trans hE)); have hc1 := (EE.out.cell (p := ⟨g1, k, none⟩) G1.out).trans C1.out; have hc2 := (EE.out.cell (p := ⟨g2, k, none⟩) G2.out).trans C2.out; clear hE hw3))
        have HE2 := hide (Ext.trans HE.out EE.out)
        go_wp2_with fail
        go_roundw
        case rel => exact ⟨k + 1, by omega, by go_num, HE2⟩
        case measure => simp [intOf]; omega
    · obtain rfl : k = 4 := by omega
      go_wp2_with (go_at_call 16; (with_reducible refine (KK.out _).mono ?_); rintro e w12 ⟨rfl, hE⟩; have EE := hide (Ext.trans S11.out.s.e (Ext.trans HE.out hE)); clear hE)
      go_ret
      exact ⟨rfl, EE.out⟩
end
end Go.Proofs.Ytijfojbonceffaa
