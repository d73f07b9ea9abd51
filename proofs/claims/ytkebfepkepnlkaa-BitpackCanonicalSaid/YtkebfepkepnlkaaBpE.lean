/- The reference's Unpack. Conditions: the slice reads as bytes. -/
import Derived.Test.YtkebfepkepnlkaaBpD
import Derived.Test.YtkebfepkepnlkaaSamA
namespace Go.Proofs.Ytkebfepkepnlkaa
set_option linter.unusedVariables false
set_option linter.unusedSimpArgs false
open Go Go.RowKit
theorem up_cellQ {w : World} {g m v M j : Nat} (h : Blk w g 48 (q8s (upN M m v)).toArray) (hj : j < m) : w.cell? ⟨g, j, none⟩ = some (.int .u64 (((upN M m v).getD j 0 : Nat) : Int)) := by
  rw [h.cell j, getD_lt (by rw [upN_len]; exact hj)]
  simp [q8s, upN_len, hj]
theorem up_storeQ {w : World} {g m v M j x : Nat} (h : Blk w g 48 (q8s (upN M m v)).toArray) (hj : j < m) (hx : x < 2 ^ v) : Blk (w.setCell ⟨g, j, none⟩ (.int .u64 (((upN M m v).getD j 0 ||| x : Nat) : Int))) g 48 (q8s (upN (M ||| x <<< (j * v)) m v)).toArray := by
  have := h.set_ j (.int .u64 (((upN M m v).getD j 0 ||| x : Nat) : Int))
  have e : (q8s (upN M m v)).toArray.setIfInBounds j (.int .u64 (((upN M m v).getD j 0 ||| x : Nat) : Int)) = (q8s (upN (M ||| x <<< (j * v)) m v)).toArray := by
    rw [← up_or hj (w := v) (x := x) hx, List.setIfInBounds_toArray]
    simp [q8s, List.map_set]
  rw [e] at this
  exact this
theorem and_one8 (x : Nat) (hx : x < 256) : bits .and .u8 (x : Int) 1 = ((x % 2 : Nat) : Int) := by
  show IntKind.u8.wrap ((BitVec.ofInt 8 (x : Int) &&& BitVec.ofInt 8 (1 : Int)).toNat : Int) = _
  have e : (BitVec.ofInt 8 (x : Int) &&& BitVec.ofInt 8 (1 : Int)).toNat = x % 2 := by
    rw [BitVec.toNat_and, BitVec.toNat_ofInt, BitVec.toNat_ofInt]
    have e1 : ((x : Int) % ((2 ^ 8 : Nat) : Int)).toNat = x := by omega
    have e2 : ((1 : Int) % ((2 ^ 8 : Nat) : Int)).toNat = 2 ^ 1 - 1 := by decide
    rw [e1, e2, Nat.and_two_pow_sub_one_eq_mod]
  rw [e, wrap_8]
  omega
theorem bit_at8 {b : List Nat} (hb : IsB b) {a j r : Nat} (hj : a / 8 = j) (hr : a % 8 = r) (hl : j < b.length) : b.getD j 0 >>> r % 2 = pkN b 8 >>> a % 2 := by
  have h := up_bit (N := pkN b 8) (n := b.length) (w := 8) (k := j) (r := r) hl (by omega)
  rw [up_pk (l := b) (w := 8) hb, show j * 8 + r = a by omega] at h
  exact h
theorem bit_shl {d r v : Nat} (hd : d < 2) (hr : r < v) : d <<< r < 2 ^ v := by
  rw [Nat.shiftLeft_eq]
  have h1 : 2 ^ r < 2 ^ v := Nat.pow_lt_pow_right (by omega) hr
  have h2 : d * 2 ^ r ≤ 1 * 2 ^ r := Nat.mul_le_mul_right _ (by omega)
  omega
theorem pk_fit (N : Nat) {m v : Nat} (hm : m ≤ 65536) (hv : v ≤ 64) : ∃ q, pkR (upN N m v) (v : Int) = some q ∧ q.length = (m * v + 7) / 8 ∧ IsB q := by
  have hf := upN_fit N m v
  have hwd := (wdt_iff (hf.isq hv) v).1 hf
  refine ⟨upN (pkN (upN N m v) v) ((m * v + 7) / 8) 8, ?_, upN_len _ _ _, upN_fit _ _ 8⟩
  unfold pkR
  rw [upN_len, Int.toNat_natCast, if_neg (by omega)]
theorem own_words {w : World} {A : Option Addr} {c cap B : Nat} {l : List Nat} (h : OwnQ B w (.slice A c cap) l) : WordsAt w A l := by
  obtain ⟨A', cap', hv, _, _, hb⟩ := h.at_
  injection hv with h1 _ _
  rw [h1]; exact hb
set_option maxRecDepth 100000 in
set_option maxHeartbeats 1600000 in
theorem r_unpack (A : Option Addr) (c cap : Nat) (b : List Nat) (n wd : Int) (W : World) (hb : BytesAt W A b) (hc : b.length = c) (hn : I64 n) (hwd : I64 wd) :
    Calls Try.prog 25 #[.slice A c cap, .int .i64 n, .int .i64 wd] W (UpPost (upR b n wd) W) := by
  have hc63 : c ≤ 9223372036854775807 := by have := hb.2.1; omega
  by_cases hq : n < 0 ∨ 65536 < n ∨ wd < 0 ∨ 64 < wd
  · have e : upR b n wd = none := if_pos (by omega)
    rw [e]
    have KS : Hid (∀ w, Calls Try.prog 15 #[.int .i64 n, .int .i64 wd] w (RetSame (.int .i64 (-1)) w)) := hide (fun w => by
      have := r_siz n wd w hn hwd
      rw [siz, if_pos hq] at this
      exact this)
    clear hb hc hq e
    go_enter Try.func25, Try.ntmps25
    go_wp2_with (go_at_call 15; (with_reducible refine (KS.out _).mono ?_); rintro e w1 ⟨rfl, rfl⟩)
    go_ret2
    exact ⟨_, rfl, OwnQ.nil_ _ _, Ext.refl _⟩
  · obtain ⟨v, rfl⟩ := Int.eq_ofNat_of_zero_le (show 0 ≤ wd by omega)
    obtain ⟨m, rfl⟩ := Int.eq_ofNat_of_zero_le (show 0 ≤ n by omega)
    have hv : v ≤ 64 := by omega
    have hm2 : m ≤ 65536 := by omega
    have hnv := nv_le hm2 hv
    obtain ⟨S, hS⟩ : ∃ S, (m * v + 7) / 8 = S := ⟨_, rfl⟩
    have KS : Hid (∀ w, Calls Try.prog 15 #[.int .i64 (m : Int), .int .i64 (v : Int)] w (RetSame (.int .i64 (S : Int)) w)) := hide (fun w => by
      have := r_siz (m : Int) (v : Int) w hn hwd
      rw [siz_in hm2 hv, hS] at this
      exact this)
    by_cases hcS : c = S
    · obtain ⟨E, hE⟩ : ∃ E, m * v = E := ⟨_, rfl⟩
      have hof := upR_of (b := b) (n := m) (w := v) hb.1 hm2 hv (by rw [hc, hcS, hS])
      rw [hE] at hS hnv
      have hmv : (m : Int) * (v : Int) = (E : Int) := by rw [← hE]; simp
      have ep : IntKind.i64.wrap ((m : Int) * (v : Int)) = (E : Int) := by rw [hmv]; simp [IntKind.wrap, IntKind.bits, IntKind.signed]; omega
      have hS2 : c ≤ 1048576 := by omega
      subst hcS
      have d1 : ((c : Int) != (c : Int)) = false := by simp
      obtain ⟨N, hN⟩ : ∃ N, pkN b 8 = N := ⟨_, rfl⟩
      have hmk := run_mk64 m m (Nat.le_refl _) (by omega)
      rw [hN] at hof
      have Hof := hide hof
      have Hbit : Hid (∀ a j r, a / 8 = j → a % 8 = r → j < c → b.getD j 0 >>> r % 2 = N >>> a % 2) := hide (fun a j r h1 h2 h3 => by rw [← hN]; exact bit_at8 hb.1 h1 h2 (by rw [hc]; exact h3))
      have HE := hide hE
      have Hc := hide hc
      have HB := hide hb
      have e0 : List.replicate m 0 = upN (N % 2 ^ 0) m v := by rw [Nat.pow_zero, Nat.mod_one, up_zero]
      rw [e0] at hmk
      have HS := hide hS
      clear hb hc hq hE hS hof hN e0
      go_enter Try.func25, Try.ntmps25
      go_upto_region 5 with (go_at_call 15; (with_reducible refine (KS.out _).mono ?_); rintro e w1 ⟨rfl, rfl⟩)
      have B1 := Blk.new W 48 (q8s (upN (N % 2 ^ 0) m v)).toArray
      have E1 := ext_alloc W (.cells (q8s (upN (N % 2 ^ 0) m v)).toArray 48)
      obtain ⟨w2, hw2⟩ : ∃ w2, W.alloc (.cells (q8s (upN (N % 2 ^ 0) m v)).toArray 48) = w2 := ⟨_, rfl⟩
      rw [hw2] at B1 E1 ⊢
      obtain ⟨g, hg⟩ : ∃ g, W.heap.size = g := ⟨_, rfl⟩
      rw [hg] at B1 ⊢
      have B1 := hide B1
      have E1 := hide E1
      have HgW := hide (show W.heap.size ≤ g by omega)
      clear hw2 hg KS
      go_wp2_with fail
      go_loopw [10] (fun t wr => ∃ a : Nat, a ≤ E ∧ t = .int .i64 (a : Int) ∧ Hid (Blk wr g 48 (q8s (upN (N % 2 ^ a) m v)).toArray) ∧ Hid (Ext W wr)) (fun t _ => E - (intOf t).toNat)
      case atStart => exact ⟨0, by omega, rfl, B1, E1⟩
      case round =>
        clear B1 E1
        obtain ⟨a, ha, rfl, BB, EE⟩ := hrel
        by_cases hlt : a < E
        · have hv0 : 0 < v := by
            rcases Nat.eq_zero_or_pos v with h | h
            · have := HE.out; rw [h, Nat.mul_zero] at this; omega
            · exact h
          obtain ⟨i, hi⟩ : ∃ i, a / v = i := ⟨_, rfl⟩
          obtain ⟨s, hs⟩ : ∃ s, a % v = s := ⟨_, rfl⟩
          obtain ⟨j, hj⟩ : ∃ j, a / 8 = j := ⟨_, rfl⟩
          obtain ⟨r, hr⟩ : ∃ r, a % 8 = r := ⟨_, rfl⟩
          have hja : i * v + s = a := by rw [← hi, ← hs, Nat.mul_comm]; exact Nat.div_add_mod a v
          have him : i < m := by rw [← hi, Nat.div_lt_iff_lt_mul hv0, HE.out]; exact hlt
          have hsv : s < v := by rw [← hs]; exact Nat.mod_lt _ hv0
          have hjc : j < c := by have := HS.out; omega
          have hr8 : r < 8 := by omega
          have hjb : j < b.length := by rw [Hc.out]; exact hjc
          obtain ⟨gb, off, rfl, hb1, hc1⟩ := (HB.out.ext EE.out).2.2 (by omega)
          have d2 := hc1 j hjb
          have hy : b.getD j 0 < 256 := HB.out.1.get j
          have hbit := Hbit.out a j r hj hr hjc
          have c1 := up_cellQ BB.out him
          have f1 := BB.out.frozen i
          have hz : (upN (N % 2 ^ a) m v).getD i 0 < 18446744073709551616 := IsQ.get (l := upN (N % 2 ^ a) m v) ((upN_fit _ m v).isq hv) _
          obtain ⟨y, hyy⟩ : ∃ y, b.getD j 0 = y := ⟨_, rfl⟩
          rw [hyy] at d2 hy hbit
          have e1 := shr_cast y r
          have hyr : y >>> r < 256 := Nat.lt_of_le_of_lt (by rw [Nat.shiftRight_eq_div_pow]; exact Nat.div_le_self _ _) hy
          have e2 := and_one8 (y >>> r) hyr
          rw [hbit] at e2
          obtain ⟨z1, hz1⟩ : ∃ z1, y >>> r = z1 := ⟨_, rfl⟩
          rw [hz1] at e1 e2
          have hd2 : N >>> a % 2 < 2 := Nat.mod_lt _ (by omega)
          have hmo := mod_or N a
          obtain ⟨d, hd⟩ : ∃ d, N >>> a % 2 = d := ⟨_, rfl⟩
          rw [hd] at e2 hd2 hmo
          have e3 : IntKind.u64.wrap (d : Int) = (d : Int) := by rw [wrap_u64']; omega
          have e4 := shl_64 d s
          have hds : d <<< s < 2 ^ v := bit_shl hd2 hsv
          have hds64 : d <<< s < 18446744073709551616 := Nat.lt_of_lt_of_le hds (Nat.pow_le_pow_right (n := 2) (by omega) hv)
          rw [Nat.mod_eq_of_lt hds64] at e4
          have o := or_64 _ _ hz hds64
          have S1 := up_storeQ BB.out him hds
          rw [← Nat.shiftLeft_add, show s + i * v = a by omega, ← hmo] at S1
          have T1 := Below.setCell EE.out (p := ⟨g, i, none⟩) HgW.out (.int .u64 (((upN (N % 2 ^ a) m v).getD i 0 ||| d <<< s : Nat) : Int))
          obtain ⟨z, hzz⟩ : ∃ z, (upN (N % 2 ^ a) m v).getD i 0 = z := ⟨_, rfl⟩
          rw [hzz] at c1 hz o S1 T1
          obtain ⟨f, hf⟩ : ∃ f, d <<< s = f := ⟨_, rfl⟩
          rw [hf] at e4 o S1 T1
          obtain ⟨x, hx⟩ : ∃ x, (z ||| f) = x := ⟨_, rfl⟩
          rw [hx] at o S1 T1
          have S1 := hide S1
          have T1 := hide T1
          have ei : (a : Int).tdiv (v : Int) = (i : Int) := by rw [Int.tdiv_eq_ediv_of_nonneg (by omega), ← hi]; simp
          have es : (a : Int).tmod (v : Int) = (s : Int) := by rw [Int.tmod_eq_emod_of_nonneg (by omega), ← hs]; simp
          have er2 : (a : Int).tmod 8 = (r : Int) := by rw [Int.tmod_eq_emod_of_nonneg (by omega)]; omega
          have ej : IntKind.i64.wrap ((a : Int) / 8) = (j : Int) := by
            have : (a : Int) / 8 = (j : Int) := by omega
            rw [this]; simp [IntKind.wrap, IntKind.bits, IntKind.signed]; omega
          have ei2 : IntKind.i64.wrap (i : Int) = (i : Int) := by simp [IntKind.wrap, IntKind.bits, IntKind.signed]; omega
          have es2 : IntKind.i64.wrap (s : Int) = (s : Int) := by simp [IntKind.wrap, IntKind.bits, IntKind.signed]; omega
          have v0 : ¬ (v = 0) := by omega
          have vb : ((v : Int) == 0) = false := by rw [beq_eq_false_iff_ne]; omega
          have i0 : (0 : Int) ≤ (j : Int) := by omega
          have i1 : (j : Int) < (c : Int) := by omega
          have i2 : ((j : Int)).toNat = j := by omega
          have k0 : (0 : Int) ≤ (i : Int) := by omega
          have k1 : (i : Int) < (m : Int) := by omega
          have k2 : ((i : Int)).toNat = i := by omega
          have wq : min (IntKind.u64.wrap (s : Int)).toNat 64 = s := by rw [wrap_u64']; omega
          have wr8 : min (IntKind.u64.wrap (r : Int)).toNat 8 = r := by rw [wrap_u64']; omega
          clear hb1 hc1 hyy hz1 hd hzz hf hx hmo hbit hds hds64 hi hs hj hr hja hjb
          go_upto_region 8 with fail
          go_region_law (fail)
          all_goals
            have X1 : Hid (Blk (wr.setCell ⟨g, i, none⟩ (.int .u64 (x : Int))).drew g 48 (q8s (upN (N % 2 ^ (a + 1)) m v)).toArray) := S1
            have Y1 : Hid (Ext W (wr.setCell ⟨g, i, none⟩ (.int .u64 (x : Int))).drew) := Below.drew T1.out
            go_wp2_with fail
            go_roundw
            case rel => exact ⟨a + 1, by omega, by go_num, X1, Y1⟩
            case measure => simp [intOf]; omega
        · have haE : a = E := by omega
          have d5 : decide ((a : Int) < (E : Int)) = false := decide_eq_false (by omega)
          have hL : upN (N % 2 ^ a) m v = upN N m v := by
            rw [up_eq, HE.out, haE, Nat.mod_mod]
          have hB := BB.out
          rw [hL] at hB
          obtain ⟨q, hqe, hql, hqb⟩ := pk_fit N hm2 hv
          rw [HE.out, HS.out] at hql
          obtain ⟨L, hLL⟩ : ∃ L, upN N m v = L := ⟨_, rfl⟩
          have hLl : L.length = m := by rw [← hLL, upN_len]
          have hLq : IsQ L := by rw [← hLL]; exact (upN_fit N m v).isq hv
          rw [hLL] at hB hqe Hof
          have HO := hide (own_q HgW.out hB hLl (by omega) hLq)
          have KP := hide (r_pack (some ⟨g, 0, none⟩) m m L (v : Int) wr (own_words HO.out) hLl hwd)
          rw [hqe] at KP Hof
          have HBr := hide (HB.out.ext EE.out)
          have KS : Hid (∀ w A2 cap2 u, Ext wr w → BytesAt w A2 q → decide (b = q) = u → Calls Try.prog 23 #[.slice A c cap, .slice A2 c cap2] w (Ret (.bool u) w)) := hide (fun w A2 cap2 u hw hb2 hu => r_same A A2 c c cap cap2 b q w (HBr.out.ext hw) hb2 Hc.out hql u hu)
          have Hql := hide hql
          clear hL hB hLL hqe hql hqb haE BB HBr HB Hbit
          cases hu : decide (b = q) with
          | true =>
            have e : upR b (m : Int) (v : Int) = some L := by
              rw [Hof.out, if_pos (by rw [of_decide_eq_true hu])]
            have He := hide e
            have KS := hide (fun w A2 cap2 hw hb2 => KS.out w A2 cap2 true hw hb2 hu)
            clear e Hof hu
            go_wp2_with (first
              | (go_at_call 16; (with_reducible refine (KP.out).mono ?_); rintro e w3 ⟨v3, rfl, hO3, hE3⟩; obtain ⟨A3, cap3, rfl, hl3, hc3, hb3⟩ := hO3.at_; rw [show (some q).getD [] = q from rfl] at hb3; have hql := Hql.out; rw [show ((some q).getD []).length = c from hql]; have KS := hide (KS.out w3 A3 cap3 hE3 hb3); have HO := hide (HO.out.ext hE3); have EE := hide (Ext.trans EE.out hE3); clear hO3 hb3 hE3 hl3 hc3 hql)
              | (go_at_call 23; (with_reducible refine (KS.out).mono ?_); rintro e w4 ⟨rfl, hE4⟩; have HO := hide (HO.out.ext hE4); have EE := hide (Ext.trans EE.out hE4); clear hE4))
            go_ret2
            rw [He.out]
            exact ⟨_, rfl, HO.out, EE.out⟩
          | false =>
            have e : upR b (m : Int) (v : Int) = none := by
              rw [Hof.out, if_neg (by
                intro h
                have := of_decide_eq_false hu
                exact this (Option.some.inj h).symm)]
            have He := hide e
            have KS := hide (fun w A2 cap2 hw hb2 => KS.out w A2 cap2 false hw hb2 hu)
            clear e Hof hu
            go_wp2_with (first
              | (go_at_call 16; (with_reducible refine (KP.out).mono ?_); rintro e w3 ⟨v3, rfl, hO3, hE3⟩; obtain ⟨A3, cap3, rfl, hl3, hc3, hb3⟩ := hO3.at_; rw [show (some q).getD [] = q from rfl] at hb3; have hql := Hql.out; rw [show ((some q).getD []).length = c from hql]; have KS := hide (KS.out w3 A3 cap3 hE3 hb3); have EE := hide (Ext.trans EE.out hE3); clear hO3 hb3 hE3 hl3 hc3 hql)
              | (go_at_call 23; (with_reducible refine (KS.out).mono ?_); rintro e w4 ⟨rfl, hE4⟩; have EE := hide (Ext.trans EE.out hE4); clear hE4))
            go_ret2
            rw [He.out]
            exact ⟨_, rfl, OwnQ.nil_ _ _, EE.out⟩
    · have e : upR b (m : Int) (v : Int) = none := by
        unfold upR
        rw [Int.toNat_natCast, Int.toNat_natCast, hS, if_pos (by omega)]
      rw [e]
      have d1 : ((c : Int) != (S : Int)) = true := by rw [bne_iff_ne]; omega
      clear hb hc hq hS e hcS
      go_enter Try.func25, Try.ntmps25
      go_wp2_with (go_at_call 15; (with_reducible refine (KS.out _).mono ?_); rintro e w1 ⟨rfl, rfl⟩)
      go_ret2
      exact ⟨_, rfl, OwnQ.nil_ _ _, Ext.refl _⟩
end Go.Proofs.Ytkebfepkepnlkaa
