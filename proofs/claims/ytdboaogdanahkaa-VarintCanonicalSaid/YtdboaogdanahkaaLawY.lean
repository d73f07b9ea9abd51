/- Layer 5: VarintCanonical. Conditions: the slices read as bytes and numbers. -/
import Derived.Test.YtdboaogdanahkaaRvC
import Derived.Test.YtdboaogdanahkaaVgr
import Derived.Test.YtdboaogdanahkaaByB
import Derived.Test.YtdboaogdanahkaaVarG
import Derived.Test.YtdboaogdanahkaaVarP
import Derived.Test.YtdboaogdanahkaaVarL
import Derived.Test.YtdboaogdanahkaaVarF
import Derived.Test.YtdboaogdanahkaaSamA
import Derived.Test.YtdboaogdanahkaaSpoA
import Derived.Test.YtdboaogdanahkaaTapeC
import Derived.Test.YtdboaogdanahkaaTapS
import Derived.Deep.RegionHeld3
import Derived.BigQuiet
import Derived.Lib.QuietBelow
import Derived.Test.YtdboaogdanahkaaBase
namespace Go.Proofs.Ytdboaogdanahkaa
set_option linter.unusedVariables false
set_option linter.unusedSimpArgs false
open Go Go.RowKit Go.Sort
theorem canon_of : ∀ (r : List Nat) (x : Nat), x < 128 → (∀ y ∈ r, 128 ≤ y ∧ y < 256) → (r ≠ [] → x ≠ 0) → Canon (r ++ [x])
  | [], x, hx, _, _ => hx
  | [y], x, hx, hr, h0 => by
    obtain ⟨h1, h2⟩ := hr y (by simp)
    exact ⟨h1, h2, hx, fun _ => h0 (by simp)⟩
  | y :: u :: r, x, hx, hr, h0 => by
    obtain ⟨h1, h2⟩ := hr y (by simp)
    have ih := canon_of (u :: r) x hx (fun w hw => hr w (by simp at hw ⊢; right; exact hw)) (fun _ => h0 (by simp))
    exact ⟨h1, h2, ih, fun h => absurd h (by simp)⟩
theorem ok_canon {m width : Nat} {l g : List Nat} (hb : IsB l) (hs : scanG m l = some g) (hk : okG width g = true) : Canon g := by
  obtain ⟨r, x, rfl, hx, hr, ⟨t, ht⟩, _⟩ := scanG_some m l g hs
  rw [okG_form (j := r.length) (x := x) (by simp) (by simp)] at hk
  refine canon_of r x hx (fun y hy => ⟨hr y hy, hb y (by rw [← ht]; simp [hy])⟩) (fun hne h0 => ?_)
  have hl : 0 < r.length := List.length_pos_iff.2 hne
  simp [h0, hl] at hk
/-- What is read at 0, and what is appended for it. -/
theorem rd_canon {l g : List Nat} {width most : Nat} (hb : IsB l) (h : rdG l 0 width most = some g) : encB (decB g) = g ∧ l.take g.length = g ∧ 1 ≤ g.length ∧ g.length ≤ l.length := by
  obtain ⟨a, ha, _, _, hs, hk⟩ := bhd_some h
  obtain rfl : a = 0 := by omega
  rw [List.drop_zero] at hs
  obtain ⟨r, x, rfl, _, _, ⟨t, ht⟩, _⟩ := scanG_some most l _ hs
  refine ⟨encB_decB _ (ok_canon hb hs hk), ?_, by simp, ?_⟩
  · rw [← ht, List.take_left']
    rfl
  · rw [← ht]; simp
set_option maxHeartbeats 1600000 in
set_option maxRecDepth 100000 in
theorem v_append (A : Option Addr) (c cap v : Nat) (l : List Nat) (W : World) (h : BytesAt W A l) (hc : l.length = c) (hlen : c ≤ 140737488355264) (hv : v < 18446744073709551616) :
    Calls Try.prog 12 #[.slice A c cap, .int .u64 (v : Int)] W (OwnRet (l ++ encB v) W) := by
  have O0 : OwnB W.heap.size (W.alloc (.cells #[] 5)) (.slice (some ⟨W.heap.size, 0, none⟩) 0 0) [] := own_of (m := []) (Nat.le_refl _) (heap_alloc_new W _) rfl rfl (by omega) IsB.nil
  have E0 := ext_alloc W (.cells #[] 5)
  have H0 := h.ext E0
  have B0 : W.heap.size ≤ (W.alloc (.cells #[] 5)).heap.size := E0.size
  have L0 : ([] : List Nat).length + l.length ≤ 140737488355328 := by simp; omega
  have m1 : (encB v).length ≤ 10 := encB_length_le v 9 (by omega)
  go_enter Try.func12, Try.ntmps12
  go_wp2_with (at_builtin; refine wl_append8 rfl (.tmp 6) (.tmp 7) rfl W.heap.size _ [] l rfl O0 A c cap rfl H0 hc L0 B0 ?_; intro v1 w1 hO hG hA)
  rw [List.nil_append] at hO
  have E1 : Below W.heap.size W w1 := below_grown E0 (Nat.le_refl _) O0 hG
  have HO := hide hO
  have HE := hide E1
  have HC := hide hc
  clear O0 E0 H0 B0 L0 hO hG hA E1 h hc
  go_loopw [1, 5] (fun i u wr => ∃ (n : Nat) (p : List Nat), n < 18446744073709551616 ∧ i = .int .u64 n ∧ Hid (p ++ encB n = encB v) ∧ Hid (OwnB W.heap.size wr u (l ++ p)) ∧ Hid (Below W.heap.size W wr)) (fun i _ _ => (intOf i).toNat)
  case atStart => exact ⟨v, [], hv, rfl, hide rfl, hide (by rw [List.append_nil]; exact HO.out), HE⟩
  case round =>
    clear HO HE
    obtain ⟨n, p, hn, rfl, HP, HO, HE⟩ := hrel
    have hpl : p.length ≤ 10 := by
      have := congrArg List.length HP.out
      rw [List.length_append] at this; omega
    by_cases hge : 128 ≤ n
    · have hge' : (128 : Int) ≤ (n : Int) := by omega
      have hu : Value.int .u8 ((n : Int) % 128 + 128) = Value.int .u8 ((n % 128 + 128 : Nat) : Int) := rfl
      have hO := one_at wr (n % 128 + 128) (by omega) _ hu
      have hO1 := HO.out.alloc (.cells #[Value.int .u8 ((n : Int) % 128 + 128)] 5)
      have hlen1 : (l ++ p).length + [n % 128 + 128].length ≤ 140737488355328 := by
        rw [List.length_append]; have := HC.out; simp; omega
      have hB1 : W.heap.size ≤ (wr.alloc (.cells #[Value.int .u8 ((n : Int) % 128 + 128)] 5)).heap.size := by have := HE.out.size; simp; omega
      have hE1 := Below.alloc HE.out HE.out.size (.cells #[Value.int .u8 ((n : Int) % 128 + 128)] 5)
      have hO := hide hO
      have hO1 := hide hO1
      have hE1 := hide hE1
      have HP2 : Hid ((p ++ [n % 128 + 128]) ++ encB (n / 128) = encB v) := by
        show _ = _
        rw [← HP.out, encB_big hge]; simp
      clear hu HP
      go_wp2_with (at_builtin; refine wl_append8 rfl (.tmp 11) (.tmp 16) rfl W.heap.size _ _ _ rfl hO1.out _ 1 1 rfl hO.out rfl hlen1 hB1 ?_; intro v2 w2 hO2 hG2 hA2; have hE2 := hide (below_grown hE1.out (Nat.le_refl _) hO1.out hG2); have hO2 := hide hO2; clear hG2 hA2)
      go_roundw
      case rel => exact ⟨n / 128, p ++ [n % 128 + 128], by omega, rfl, HP2, hide (by rw [← List.append_assoc]; exact hO2.out), hE2⟩
      case measure => simp [intOf]; omega
    · have hge' : ¬ (128 : Int) ≤ (n : Int) := by omega
      have hO := one_at wr n (by omega) (.int .u8 (n : Int)) rfl
      have hO1 := HO.out.alloc (.cells #[Value.int .u8 (n : Int)] 5)
      have hlen1 : (l ++ p).length + [n].length ≤ 140737488355328 := by
        rw [List.length_append]; have := HC.out; simp; omega
      have hB1 : W.heap.size ≤ (wr.alloc (.cells #[Value.int .u8 (n : Int)] 5)).heap.size := by have := HE.out.size; simp; omega
      have hE1 := Below.alloc HE.out HE.out.size (.cells #[Value.int .u8 (n : Int)] 5)
      have hO := hide hO
      have hO1 := hide hO1
      have hE1 := hide hE1
      have HP2 : Hid (p ++ [n] = encB v) := by
        show _ = _
        rw [← HP.out, encB_small (by omega)]
      clear HP
      go_wp2_with (at_builtin; refine wl_append8 rfl (.tmp 20) (.tmp 23) rfl W.heap.size _ _ _ rfl hO1.out _ 1 1 rfl hO.out rfl hlen1 hB1 ?_; intro v2 w2 hO2 hG2 hA2; have hE2 := hide (below_grown hE1.out (Nat.le_refl _) hO1.out hG2); have hO2 := hide hO2; clear hG2 hA2)
      go_ret
      exact ⟨_, rfl, by rw [← HP2.out, ← List.append_assoc]; exact hO2.out, hE2.out⟩
theorem w_canon (C : Nat) (g2 : List Nat) (hC1 : ¬ C = 1) (hlt2 : C < 2 ^ 257) (hcan2 : encB C = g2) (w : World) : Calls Try.prog 24 #[.slice none 0 0, .agg #[.bool (decide (C % 2 = 1)), .int .u64 (w5 (C / 2) 0 : Int), .int .u64 (w5 (C / 2) 1 : Int), .int .u64 (w5 (C / 2) 2 : Int), .int .u64 (w5 (C / 2) 3 : Int)]] w (OwnRet g2 w) := by
  have kp := p_wappend none 0 0 [] (decide (C % 2 = 1)) (w5 (C / 2) 0) (w5 (C / 2) 1) (w5 (C / 2) 2) (w5 (C / 2) 3) (unc C) w (unc_isw C _ hlt2 rfl) (BytesAt.nil _ _) rfl (by omega)
  rw [cod_unc hC1, hcan2, List.nil_append] at kp
  exact kp
theorem w_read (C n : Nat) (A : Option Addr) (m c : Nat) (w : World) (hC1 : ¬ C = 1) (h : Calls Try.prog 23 #[.slice A m c, .int .i64 0] w (Ret (rwW C 0 n) w)) :
    Calls Try.prog 23 #[.slice A m c, .int .i64 0] w (Ret (.tuple #[.agg #[.bool (decide (C % 2 = 1)), .int .u64 (w5 (C / 2) 0 : Int), .int .u64 (w5 (C / 2) 1 : Int), .int .u64 (w5 (C / 2) 2 : Int), .int .u64 (w5 (C / 2) 3 : Int)], .int .i64 (n : Int), .int .i64 0]) w) := by
  have er : rwW C 0 n = .tuple #[.agg #[.bool (decide (C % 2 = 1)), .int .u64 (w5 (C / 2) 0 : Int), .int .u64 (w5 (C / 2) 1 : Int), .int .u64 (w5 (C / 2) 2 : Int), .int .u64 (w5 (C / 2) 3 : Int)], .int .i64 (n : Int), .int .i64 0] := by unfold rwW; rw [if_neg hC1]; simp
  rw [er] at h
  exact h
set_option maxRecDepth 100000 in
set_option maxHeartbeats 8000000 in
theorem l_canon (A : Option Addr) (n cap : Nat) (l : List Nat) (y : Option Addr) (len cap2 : Nat) (W : World)
    (hb : BytesAt W A l) (hc : l.length = n) (hcap : n ≤ cap) (hlen : n ≤ 140737488351232) (hL : IsList W y len cap2) :
    Calls Try.prog 4 #[.slice A n cap, .slice y len cap2] W (Ret (.bool true) W) := by
  have KN : Hid (Calls Try.prog 10 #[.slice y len cap2] W (NewPost W)) := t_new W y len cap2 hL
  obtain ⟨gt, hgt⟩ : ∃ g, W.heap.size = g := ⟨_, rfl⟩
  have KW : Hid (∀ w, TapeOk gt w gt → Calls Try.prog 13 #[.pointer (some ⟨gt, 0, none⟩)] w (NextPost gt gt U64 .u64 w)) := fun w T => t_word' gt gt w w T (Upd.refl _ _)
  have KX : Hid (∀ w, TapeOk gt w gt → Calls Try.prog 19 #[.pointer (some ⟨gt, 0, none⟩), .int .i64 60] w (NextPost gt gt (InN 60) .i64 w)) := fun w T => t_next' gt gt 60 w w ⟨by omega, by omega⟩ T (Upd.refl _ _)
  have KV : Hid (∀ w, TapeOk gt w gt → Calls Try.prog 14 #[.pointer (some ⟨gt, 0, none⟩)] w (TapeWide gt gt w)) := fun w T => t_wide gt gt w w T (Upd.refl _ _)
  have KA : Hid (∀ (x : Nat) w, x < 18446744073709551616 → Calls Try.prog 12 #[.slice none 0 0, .int .u64 (x : Int)] w (OwnRet (encB x) w)) := fun x w hx => v_append none 0 0 x [] w (BytesAt.nil _ _) rfl (by omega) hx
  have KB : Hid (∀ s a b c d z w, IsW s a b c d z → Calls Try.prog 11 #[.slice none 0 0, .agg #[.bool s, .int .u64 (a : Int), .int .u64 (b : Int), .int .u64 (c : Int), .int .u64 (d : Int)]] w (OwnRet (encB (cod z)) w)) := fun s a b c d z w hz => v_awide none 0 0 [] s a b c d z w hz (BytesAt.nil _ _) rfl (by omega)
  have KS : Hid (∀ w A m c (l : List Nat), TapeOk gt w gt → BytesAt w A l → l.length = m → m ≤ 37 → Calls Try.prog 16 #[.pointer (some ⟨gt, 0, none⟩), .slice A m c] w (SpoilPost gt gt m w)) := fun w A m c l T h hm hm2 => t_spoiled gt gt A m c l w T h hm (by omega)
  have Hgt := hide hgt
  have HB := hide hb
  have HC := hide hc
  clear hgt hb hc hL
  go_enter Try.func4, Try.ntmps4
  go_upto_region 3 with (first
    | (go_at_call 10; (with_reducible refine (KN.out).mono ?_); rintro e w1 ⟨rfl, hT, hE1⟩; rw [Hgt.out] at hT hE1; rw [Hgt.out]; have hT := hide hT; have hE1 := hide hE1)
    | (go_at_call 13; (with_reducible refine (KW.out _ hT.out).mono ?_); rintro e w2 ⟨wd, rfl, hwd, hT2, hU⟩; have hT := hide hT2; have hU := hide hU)
    | (go_at_call 19; (with_reducible refine (KX.out _ hT.out).mono ?_); rintro e w3 ⟨nx, rfl, hnx, hT3, hU3⟩; have hT := hide hT3; have hU := hide (hU.out.trans hU3); have hnx := hide hnx; obtain ⟨nx, rfl⟩ := Int.eq_ofNat_of_zero_le hnx.out.1; obtain ⟨wd, rfl⟩ := Int.eq_ofNat_of_zero_le hwd.1)
    | skip; fail)
  obtain ⟨x3, hx3, hx3l⟩ : ∃ x3 : Nat, (wd : Int) / 2 ^ min (IntKind.u64.wrap (nx : Int)).toNat 64 = (x3 : Int) ∧ x3 < 18446744073709551616 := by
    refine ⟨wd / 2 ^ min (IntKind.u64.wrap (nx : Int)).toNat 64, by simp, Nat.lt_of_le_of_lt (Nat.div_le_self _ _) (by have := hwd.2; omega)⟩
  rw [hx3]
  have hl3 : (encB x3).length ≤ 10 := encB_length_le x3 9 (by omega)
  (with_reducible refine (KA.out x3 _ hx3l).mono ?_)
  rintro e w4 ⟨va, rfl, hO4, hE4⟩
  obtain ⟨A4, c4, rfl, -, -, hb4⟩ := hO4.at_
  have T4 := hide (hT.out.ext hE4)
  have U4 := hide (hU.out.trans (hE4.upd gt))
  have KS4 := hide (KS.out w4 A4 _ c4 (encB x3) T4.out hb4 rfl (by omega))
  clear hx3 hO4 hE4 hT hU hwd hnx KW KX KA
  go_upto_region 3 with (first
    | (go_at_call 16; (with_reducible refine (KS4.out).mono ?_); rintro e wq5 ⟨A5, n5, c5, l5, rfl, hl5, hn5, hc5, hn5c, hb5, hap5, hT5, hU5⟩; have T5 := hide hT5; have U5 := hide (U4.out.trans hU5); have N5 := hide (show ∀ g off, A5 = some ⟨g, off, none⟩ → g ≠ gt from fun g off e h => by have := hap5 g off e; have := T4.out.2.1; omega); have B5 := hide hb5; clear hT5 hU5 hap5 hb5)
    | (go_at_call 14; (with_reducible refine (KV.out _ T5.out).mono ?_); rintro e w6 ⟨s, a, b, c, d, z, rfl, hz, hT6, hU6⟩; have T6 := hide hT6; have U6 := hide (U5.out.trans hU6); have V6 := hide hU6; have hz := hide hz; have hl6 : (encB (cod z)).length ≤ 37 := encB_length_le (cod z) 36 (Nat.lt_trans (cod_lt hz.out.1) (by decide +kernel)); clear hT6 hU6))
  have hzw : IsW s a b c d z := hz.out.1
  (with_reducible refine (KB.out s a b c d z _ hzw).mono ?_)
  rintro e w7 ⟨vb, rfl, hO7, hE7⟩
  obtain ⟨A7, c7, rfl, -, -, hb7⟩ := hO7.at_
  have T7 := hide (T6.out.ext hE7)
  have U7 := hide (U6.out.trans (hE7.upd gt))
  have V7 := hide (V6.out.trans (hE7.upd gt))
  have KS7 := hide (KS.out w7 A7 _ c7 (encB (cod z)) T7.out hb7 rfl (by omega))
  clear hO7 hE7 hb7
  go_upto_region 3 with (first
    | (go_at_call 16; (with_reducible refine (KS7.out).mono ?_); rintro e w8 ⟨A8, n8, c8, l8, rfl, hl8, hn8, hc8, hn8c, hb8, hap8, hT8, hU8⟩; have U8 := hide (U7.out.trans hU8); have B5 := hide (B5.out.upd (V7.out.trans hU8) N5.out); have B8 := hide hb8; clear hT8 hU8 hap8 hb8))
  have E8 : Ext W w8 := Upd.ext U8.out (show Ext W w1 by have h := hE1.out; rw [← Hgt.out] at h; exact h) (by rw [Hgt.out]; exact Nat.le_refl _)
  have HL : Hid (∀ k, k < 3 → ∃ (A' : Option Addr) (n' c' : Nat) (m : List Nat), (w8.alloc (.cells #[.slice A n cap, .slice A5 n5 c5, .slice A8 n8 c8] 22)).cell? ⟨w8.heap.size, k, none⟩ = some (.slice A' n' c') ∧ BytesAt (w8.alloc (.cells #[.slice A n cap, .slice A5 n5 c5, .slice A8 n8 c8] 22)) A' m ∧ m.length = n' ∧ n' ≤ c' ∧ n' ≤ 4611686018427387904) := fun k hk => by
    have PL := Blk.new w8 22 #[.slice A n cap, .slice A5 n5 c5, .slice A8 n8 c8]
    have EL := ext_alloc w8 (.cells #[.slice A n cap, .slice A5 n5 c5, .slice A8 n8 c8] 22)
    have h3 : k = 0 ∨ k = 1 ∨ k = 2 := by omega
    rcases h3 with rfl | rfl | rfl
    · exact ⟨A, n, cap, l, PL.cell 0, (HB.out.ext E8).ext EL, HC.out, hcap, by omega⟩
    · exact ⟨A5, n5, c5, l5, PL.cell 1, B5.out.ext EL, hl5, hn5, by omega⟩
    · exact ⟨A8, n8, c8, l8, PL.cell 2, B8.out.ext EL, hl8, hn8, by omega⟩
  have E9 := hide (Ext.trans E8 (ext_alloc w8 (.cells #[.slice A n cap, .slice A5 n5 c5, .slice A8 n8 c8] 22)))
  have LG : w8.heap.size < (w8.alloc (.cells #[.slice A n cap, .slice A5 n5 c5, .slice A8 n8 c8] 22)).heap.size := by simp
  obtain ⟨w9, hw9⟩ : ∃ w, w8.alloc (.cells #[.slice A n cap, .slice A5 n5 c5, .slice A8 n8 c8] 22) = w := ⟨_, rfl⟩
  rw [hw9] at HL E9 LG ⊢
  obtain ⟨gl, hgl⟩ : ∃ g, w8.heap.size = g := ⟨_, rfl⟩
  rw [hgl] at HL LG ⊢
  have LG := hide LG
  clear hw9 hgl E8 B5 B8 HB HC T4 T5 T6 T7 U4 U5 U6 U7 U8 V6 V7 KS KS4 KS7 KV KB hzw hz hE1 N5 hl5 hn5 hc5 hn5c hl8 hn8 hc8 hn8c hb4 hl3 hl6 hx3l hlen hcap
  go_upto_region 4 with fail
  go_loopw [7] (fun i wr => ∃ k : Nat, k ≤ 3 ∧ i = .int .i64 k ∧ Hid (Ext w9 wr)) (fun i _ => 3 - (intOf i).toNat)
  case atStart => exact ⟨0, by omega, rfl, Ext.refl _⟩
  case round =>
    obtain ⟨k, hk, rfl, EE⟩ := hrel
    by_cases hlt : k < 3
    · obtain ⟨A', n', c', m, hcell, hbm, hm1, hm2, hm3⟩ := HL.out k hlt
      have c0 := (EE.out.cell (p := ⟨gl, k, none⟩) LG.out).trans hcell
      have hk3 : (k : Int) < 3 := by omega
      have hk0 : (0 : Int) ≤ (k : Int) := by omega
      have hcell := hide hcell
      have hbm := hide hbm
      have hm1 := hide hm1
      have hm2 := hide hm2
      have hm3 := hide hm3
      cases hg : rdG m 0 64 10 with
      | none =>
        obtain ⟨e1, hbd1, he1⟩ := bhd_none hg
        have hrd : rdV m 0 = (0, 0, e1) := by unfold rdV rdE; rw [hg, hbd1]
        have KR : Hid (∀ w, Ext w9 w → Calls Try.prog 20 #[.slice A' n' c', .int .i64 0] w (RetSame (.tuple #[.int .u64 0, .int .i64 0, .int .i64 e1]) w)) := fun w h => p_read A' n' c' m 0 w (hbm.out.ext h) hm1.out hm2.out hm3.out ⟨by omega, by omega⟩ _ _ _ hrd
        have qe1 : ¬ (e1 = 0) := by omega
        have qb1 : (e1 == 0) = false := by rw [beq_eq_false_iff_ne]; exact qe1
        clear hg hrd hbd1 he1
        go_upto_region 7 with (go_at_call 20; (with_reducible refine (KR.out _ EE.out).mono ?_); rintro e v2 ⟨rfl, rfl⟩)
        refine wp_region_quiet_below (by kernel_rfl) (by kernel_rfl) ?_
        repeat (first | go_big_quiet_step (fail) | quiet_step (fail))
        refine wpQuiet_nil ?_
        intro _ hw'
        obtain ⟨⟨dq, osq⟩, hw2⟩ := hw'
        subst hw2
        have EE := hide (Ext.trans EE.out (ext_regrown _ dq osq))
        have c0 := (EE.out.cell (p := ⟨gl, k, none⟩) LG.out).trans hcell.out
        obtain ⟨w10, hwn⟩ : ∃ w, grow (redrawn wr dq) osq = w := ⟨_, rfl⟩
        rw [hwn] at EE c0 ⊢
        clear hwn
        clear KR
        cases hg2 : rdG m 0 257 37 with
        | none =>
          obtain ⟨e2, hbd2, he2⟩ := bhd_none hg2
          have KR2 : Hid (∀ w, Ext w9 w → Calls Try.prog 23 #[.slice A' n' c', .int .i64 0] w (Ret (.tuple #[.agg #[.bool false, .int .u64 0, .int .u64 0, .int .u64 0, .int .u64 0], .int .i64 0, .int .i64 e2]) w)) := fun w h => p_rwide_err A' n' c' m 0 e2 w (hbm.out.ext h) hm1.out hm2.out hm3.out ⟨by omega, by omega⟩ hbd2 he2
          have qe2 : ¬ (e2 = 0) := by omega
          have qb2 : (e2 == 0) = false := by rw [beq_eq_false_iff_ne]; exact qe2
          clear hg2 hbd2 he2
          go_upto_region 10 with (go_at_call 23; (with_reducible refine (KR2.out _ EE.out).mono ?_); rintro e u1 ⟨rfl, hE⟩; have EE := hide (EE.out.trans hE); clear hE)
          have EE := hide (Ext.trans EE.out (ext_alloc u1 (.cells #[.bool false, .int .u64 0, .int .u64 0, .int .u64 0, .int .u64 0] 32)))
          obtain ⟨u2, hu2⟩ : ∃ w, u1.alloc (.cells #[.bool false, .int .u64 0, .int .u64 0, .int .u64 0, .int .u64 0] 32) = w := ⟨_, rfl⟩
          rw [hu2] at EE ⊢
          have c0 := (EE.out.cell (p := ⟨gl, k, none⟩) LG.out).trans hcell.out
          clear hu2 KR2
          refine wp_region_quiet_below (by kernel_rfl) (by kernel_rfl) ?_
          repeat (first | go_big_quiet_step (fail) | quiet_step (fail))
          refine wpQuiet_nil ?_
          intro _ hw'
          obtain ⟨⟨dq, osq⟩, hw2⟩ := hw'
          subst hw2
          have EE := hide (Ext.trans EE.out (ext_regrown _ dq osq))
          have c0 := (EE.out.cell (p := ⟨gl, k, none⟩) LG.out).trans hcell.out
          obtain ⟨u3, hwn⟩ : ∃ w, grow (redrawn u2 dq) osq = w := ⟨_, rfl⟩
          rw [hwn] at EE c0 ⊢
          clear hwn
          go_wp2_with fail
          go_roundw
          case rel => exact ⟨k + 1, by omega, by go_num, EE⟩
          case measure => simp [intOf]; omega
        | some g2 =>
          obtain ⟨hcan2, htk2, hg21, hg22⟩ := rd_canon hbm.out.1 hg2
          have hlt2 : decB g2 < 2 ^ 257 := by
            obtain ⟨a0, ha0, _, _, h1, h2⟩ := bhd_some hg2
            have h3 := decB_ok (width := 257) h1 h2
            exact h3
          have KW : Hid (∀ w, Ext w9 w → Calls Try.prog 23 #[.slice A' n' c', .int .i64 0] w (Ret (rwW (decB g2) 0 g2.length) w)) := fun w h => p_rwide A' n' c' m 0 g2 w (hbm.out.ext h) hm1.out hm2.out hm3.out hg2
          obtain ⟨C, hC⟩ : ∃ C, decB g2 = C := ⟨_, rfl⟩
          rw [hC] at KW hcan2 hlt2
          by_cases hC1 : C = 1
          · have er : rwW C 0 g2.length = .tuple #[.agg #[.bool false, .int .u64 0, .int .u64 0, .int .u64 0, .int .u64 0], .int .i64 0, .int .i64 5] := by unfold rwW; rw [if_pos hC1]
            rw [er] at KW
            clear hg2 hcan2 htk2 hg21 hg22 hlt2 hC hC1 er
            have KR2 := KW
            clear KW
            go_upto_region 10 with (go_at_call 23; (with_reducible refine (KR2.out _ EE.out).mono ?_); rintro e u1 ⟨rfl, hE⟩; have EE := hide (EE.out.trans hE); clear hE)
            have EE := hide (Ext.trans EE.out (ext_alloc u1 (.cells #[.bool false, .int .u64 0, .int .u64 0, .int .u64 0, .int .u64 0] 32)))
            obtain ⟨u2, hu2⟩ : ∃ w, u1.alloc (.cells #[.bool false, .int .u64 0, .int .u64 0, .int .u64 0, .int .u64 0] 32) = w := ⟨_, rfl⟩
            rw [hu2] at EE ⊢
            have c0 := (EE.out.cell (p := ⟨gl, k, none⟩) LG.out).trans hcell.out
            clear hu2 KR2
            refine wp_region_quiet_below (by kernel_rfl) (by kernel_rfl) ?_
            repeat (first | go_big_quiet_step (fail) | quiet_step (fail))
            refine wpQuiet_nil ?_
            intro _ hw'
            obtain ⟨⟨dq, osq⟩, hw2⟩ := hw'
            subst hw2
            have EE := hide (Ext.trans EE.out (ext_regrown _ dq osq))
            have c0 := (EE.out.cell (p := ⟨gl, k, none⟩) LG.out).trans hcell.out
            obtain ⟨u3, hwn⟩ : ∃ w, grow (redrawn u2 dq) osq = w := ⟨_, rfl⟩
            rw [hwn] at EE c0 ⊢
            clear hwn
            go_wp2_with fail
            go_roundw
            case rel => exact ⟨k + 1, by omega, by go_num, EE⟩
            case measure => simp [intOf]; omega
          · have KW := hide (fun w h => w_read C g2.length A' n' c' w hC1 (KW.out w h))
            have KP2 := hide (fun w => w_canon C g2 hC1 hlt2 hcan2 w)
            clear hlt2
            have hle2 : g2.length ≤ n' := by rw [← hm1.out]; exact hg22
            have hbt2 : Hid (BytesAt w9 A' g2) := by have := hbm.out.take g2.length; rw [htk2] at this; exact this
            have hs2 := run_upto A' n' g2.length c' (by have := hm2.out; omega)
            obtain ⟨e2, he2⟩ : ∃ v, g2.length = v := ⟨_, rfl⟩
            rw [he2] at KW hs2 hle2 hg21
            obtain ⟨o, ho⟩ : ∃ v, decide (C % 2 = 1) = v := ⟨_, rfl⟩
            obtain ⟨x0, hx0⟩ : ∃ v, w5 (C / 2) 0 = v := ⟨_, rfl⟩
            obtain ⟨x1, hx1⟩ : ∃ v, w5 (C / 2) 1 = v := ⟨_, rfl⟩
            obtain ⟨x2, hx2⟩ : ∃ v, w5 (C / 2) 2 = v := ⟨_, rfl⟩
            obtain ⟨x3, hx3⟩ : ∃ v, w5 (C / 2) 3 = v := ⟨_, rfl⟩
            rw [ho, hx0, hx1, hx2, hx3] at KW KP2
            have He2 := hide he2
            have t3 : decide (n' < e2) = false := decide_eq_false (by omega)
            have t4 : decide ((e2 : Int) < 1) = false := decide_eq_false (by omega)
            clear hg2 hcan2 htk2 hg22 hC hC1 he2 ho hx0 hx1 hx2 hx3
            go_upto_region 10 with (go_at_call 23; (with_reducible refine (KW.out _ EE.out).mono ?_); rintro e u1 ⟨rfl, hE⟩; have EE := hide (Ext.trans EE.out hE); clear hE)
            have Q2 := Blk.new u1 32 #[.bool o, .int .u64 (x0 : Int), .int .u64 (x1 : Int), .int .u64 (x2 : Int), .int .u64 (x3 : Int)]
            have EE := hide (Ext.trans EE.out (ext_alloc u1 (.cells #[.bool o, .int .u64 (x0 : Int), .int .u64 (x1 : Int), .int .u64 (x2 : Int), .int .u64 (x3 : Int)] 32)))
            obtain ⟨u2, hu2⟩ : ∃ w, u1.alloc (.cells #[.bool o, .int .u64 (x0 : Int), .int .u64 (x1 : Int), .int .u64 (x2 : Int), .int .u64 (x3 : Int)] 32) = w := ⟨_, rfl⟩
            rw [hu2] at EE Q2 ⊢
            obtain ⟨q, hq⟩ : ∃ g, u1.heap.size = g := ⟨_, rfl⟩
            rw [hq] at Q2 ⊢
            have c0 := (EE.out.cell (p := ⟨gl, k, none⟩) LG.out).trans hcell.out
            have Q2 : Box u2 q o x0 x1 x2 x3 := Q2
            obtain ⟨p0, p1, p2, p3, p4, _⟩ := five_cells Q2
            clear hu2 hq KW
            go_region_held3 (fun w' => w'.cell? ⟨gl, k, none⟩ = some (.slice A' n' c') ∧ w'.cell? ⟨q, 0, none⟩ = some (.bool o) ∧ w'.cell? ⟨q, 1, none⟩ = some (.int .u64 (x0 : Int)) ∧ w'.cell? ⟨q, 2, none⟩ = some (.int .u64 (x1 : Int)) ∧ w'.cell? ⟨q, 3, none⟩ = some (.int .u64 (x2 : Int)) ∧ w'.cell? ⟨q, 4, none⟩ = some (.int .u64 (x3 : Int))) (first | (with_reducible exact ⟨c0, p0, p1, p2, p3, p4⟩) | go_keep) (first
              | (go_at_call 24; (with_reducible refine (KP2.out _).mono ?_); rintro e z1 ⟨va, rfl, hO, hE⟩; have Q2 : Box z1 q o x0 x1 x2 x3 := (by first | exact Box.ext Q2 hE | exact Q2.drew.ext hE); obtain ⟨p0, p1, p2, p3, p4, _⟩ := five_cells Q2; have EE : Hid (Ext w9 z1) := (by first | exact hide (EE.out.trans hE) | exact hide ((EE.out.trans (ext_drew _)).trans hE)); have c0 := (EE.out.cell (p := ⟨gl, k, none⟩) LG.out).trans hcell.out; obtain ⟨A1, d1, rfl, -, -, hb1⟩ := hO.at_; have hb1 := hide hb1; clear hO hE)
              | (go_at_call 21; (with_reducible refine (r_same A1 A' _ _ d1 c' g2 g2 _ hb1.out (by first | exact hbt2.out.ext EE.out | exact hbt2.out.ext (Ext.trans EE.out (ext_drew _))) rfl He2.out true (decide_eq_true rfl)).mono ?_); rintro e z2 ⟨rfl, hE⟩; have Q2 : Box z2 q o x0 x1 x2 x3 := (by first | exact Box.ext Q2 hE | exact Q2.drew.ext hE); obtain ⟨p0, p1, p2, p3, p4, _⟩ := five_cells Q2; have EE : Hid (Ext w9 z2) := (by first | exact hide (EE.out.trans hE) | exact hide ((EE.out.trans (ext_drew _)).trans hE)); have c0 := (EE.out.cell (p := ⟨gl, k, none⟩) LG.out).trans hcell.out; clear hE))
            clear hb1 p0 p1 p2 p3 p4 Q2
            go_wp2_with fail
            go_roundw
            case rel => exact ⟨k + 1, by omega, by go_num, EE⟩
            case measure => simp [intOf]; omega
      | some g1 =>
        obtain ⟨hcan, htk, hg1, hg2⟩ := rd_canon hbm.out.1 hg
        have hrd : rdV m 0 = ((decB g1 : Int), (g1.length : Int), 0) := by unfold rdV; rw [hg]; simp
        have hdl := (decB_ok (width := 64) (by obtain ⟨a0, ha0, _, _, h1, h2⟩ := bhd_some hg; obtain rfl : a0 = 0 := (by omega); exact h1) (by obtain ⟨a0, ha0, _, _, h1, h2⟩ := bhd_some hg; exact h2) : decB g1 < 2 ^ 64)
        have hdl : decB g1 < 18446744073709551616 := hdl
        have KR : Hid (∀ w, Ext w9 w → Calls Try.prog 20 #[.slice A' n' c', .int .i64 0] w (RetSame (.tuple #[.int .u64 (decB g1 : Int), .int .i64 (g1.length : Int), .int .i64 0]) w)) := fun w h => p_read A' n' c' m 0 w (hbm.out.ext h) hm1.out hm2.out hm3.out ⟨by omega, by omega⟩ _ _ _ hrd
        have KP : Hid (∀ w, Calls Try.prog 22 #[.slice none 0 0, .int .u64 (decB g1 : Int)] w (OwnRet g1 w)) := fun w => by
          have := p_vappend none 0 0 (decB g1) [] w (BytesAt.nil _ _) rfl (by omega) hdl
          rw [hcan] at this
          exact this
        have hle : g1.length ≤ n' := by rw [← hm1.out]; exact hg2
        have hbt : Hid (BytesAt w9 A' g1) := by have := hbm.out.take g1.length; rw [htk] at this; exact this
        have hs1 := run_upto A' n' g1.length c' (by have := hm2.out; omega)
        obtain ⟨v1, hv1⟩ : ∃ v, decB g1 = v := ⟨_, rfl⟩
        rw [hv1] at KR KP
        obtain ⟨e1, he1⟩ : ∃ v, g1.length = v := ⟨_, rfl⟩
        rw [he1] at KR hs1 hle hg1
        have He1 := hide he1
        have t1 : decide (n' < e1) = false := decide_eq_false (by omega)
        have t2 : decide ((e1 : Int) < 1) = false := decide_eq_false (by omega)
        clear hg hcan htk hg2 hrd hdl hv1 he1
        go_upto_region 7 with (go_at_call 20; (with_reducible refine (KR.out _ EE.out).mono ?_); rintro e v2 ⟨rfl, rfl⟩)
        go_region_held3 (fun w' => w'.cell? ⟨gl, k, none⟩ = some (.slice A' n' c')) (first | (with_reducible exact c0) | go_keep) (first
          | (go_at_call 22; (with_reducible refine (KP.out _).mono ?_); rintro e z1 ⟨va, rfl, hO, hE⟩; have EE : Hid (Ext w9 z1) := (by first | exact hide (EE.out.trans hE) | exact hide ((EE.out.trans (ext_drew _)).trans hE)); have c0 := (EE.out.cell (p := ⟨gl, k, none⟩) LG.out).trans hcell.out; obtain ⟨A1, d1, rfl, -, -, hb1⟩ := hO.at_; have hb1 := hide hb1; clear hO hE)
          | (go_at_call 21; (with_reducible refine (r_same A1 A' _ _ d1 c' g1 g1 _ hb1.out (by first | exact hbt.out.ext EE.out | exact hbt.out.ext (Ext.trans EE.out (ext_drew _))) rfl He1.out true (decide_eq_true rfl)).mono ?_); rintro e z2 ⟨rfl, hE⟩; have EE : Hid (Ext w9 z2) := (by first | exact hide (EE.out.trans hE) | exact hide ((EE.out.trans (ext_drew _)).trans hE)); have c0 := (EE.out.cell (p := ⟨gl, k, none⟩) LG.out).trans hcell.out; clear hE))
        clear hb1 KP KR hbt hs1 t1 t2 hle He1 hg1
        cases hg2 : rdG m 0 257 37 with
        | none =>
          obtain ⟨e2, hbd2, he2⟩ := bhd_none hg2
          have KR2 : Hid (∀ w, Ext w9 w → Calls Try.prog 23 #[.slice A' n' c', .int .i64 0] w (Ret (.tuple #[.agg #[.bool false, .int .u64 0, .int .u64 0, .int .u64 0, .int .u64 0], .int .i64 0, .int .i64 e2]) w)) := fun w h => p_rwide_err A' n' c' m 0 e2 w (hbm.out.ext h) hm1.out hm2.out hm3.out ⟨by omega, by omega⟩ hbd2 he2
          have qe2 : ¬ (e2 = 0) := by omega
          have qb2 : (e2 == 0) = false := by rw [beq_eq_false_iff_ne]; exact qe2
          clear hg2 hbd2 he2
          go_upto_region 10 with (go_at_call 23; (with_reducible refine (KR2.out _ EE.out).mono ?_); rintro e u1 ⟨rfl, hE⟩; have EE := hide (EE.out.trans hE); clear hE)
          have EE := hide (Ext.trans EE.out (ext_alloc u1 (.cells #[.bool false, .int .u64 0, .int .u64 0, .int .u64 0, .int .u64 0] 32)))
          obtain ⟨u2, hu2⟩ : ∃ w, u1.alloc (.cells #[.bool false, .int .u64 0, .int .u64 0, .int .u64 0, .int .u64 0] 32) = w := ⟨_, rfl⟩
          rw [hu2] at EE ⊢
          have c0 := (EE.out.cell (p := ⟨gl, k, none⟩) LG.out).trans hcell.out
          clear hu2 KR2
          refine wp_region_quiet_below (by kernel_rfl) (by kernel_rfl) ?_
          repeat (first | go_big_quiet_step (fail) | quiet_step (fail))
          refine wpQuiet_nil ?_
          intro _ hw'
          obtain ⟨⟨dq, osq⟩, hw2⟩ := hw'
          subst hw2
          have EE := hide (Ext.trans EE.out (ext_regrown _ dq osq))
          have c0 := (EE.out.cell (p := ⟨gl, k, none⟩) LG.out).trans hcell.out
          obtain ⟨u3, hwn⟩ : ∃ w, grow (redrawn u2 dq) osq = w := ⟨_, rfl⟩
          rw [hwn] at EE c0 ⊢
          clear hwn
          go_wp2_with fail
          go_roundw
          case rel => exact ⟨k + 1, by omega, by go_num, EE⟩
          case measure => simp [intOf]; omega
        | some g2 =>
          obtain ⟨hcan2, htk2, hg21, hg22⟩ := rd_canon hbm.out.1 hg2
          have hlt2 : decB g2 < 2 ^ 257 := by
            obtain ⟨a0, ha0, _, _, h1, h2⟩ := bhd_some hg2
            have h3 := decB_ok (width := 257) h1 h2
            exact h3
          have KW : Hid (∀ w, Ext w9 w → Calls Try.prog 23 #[.slice A' n' c', .int .i64 0] w (Ret (rwW (decB g2) 0 g2.length) w)) := fun w h => p_rwide A' n' c' m 0 g2 w (hbm.out.ext h) hm1.out hm2.out hm3.out hg2
          obtain ⟨C, hC⟩ : ∃ C, decB g2 = C := ⟨_, rfl⟩
          rw [hC] at KW hcan2 hlt2
          by_cases hC1 : C = 1
          · have er : rwW C 0 g2.length = .tuple #[.agg #[.bool false, .int .u64 0, .int .u64 0, .int .u64 0, .int .u64 0], .int .i64 0, .int .i64 5] := by unfold rwW; rw [if_pos hC1]
            rw [er] at KW
            clear hg2 hcan2 htk2 hg21 hg22 hlt2 hC hC1 er
            have KR2 := KW
            clear KW
            go_upto_region 10 with (go_at_call 23; (with_reducible refine (KR2.out _ EE.out).mono ?_); rintro e u1 ⟨rfl, hE⟩; have EE := hide (EE.out.trans hE); clear hE)
            have EE := hide (Ext.trans EE.out (ext_alloc u1 (.cells #[.bool false, .int .u64 0, .int .u64 0, .int .u64 0, .int .u64 0] 32)))
            obtain ⟨u2, hu2⟩ : ∃ w, u1.alloc (.cells #[.bool false, .int .u64 0, .int .u64 0, .int .u64 0, .int .u64 0] 32) = w := ⟨_, rfl⟩
            rw [hu2] at EE ⊢
            have c0 := (EE.out.cell (p := ⟨gl, k, none⟩) LG.out).trans hcell.out
            clear hu2 KR2
            refine wp_region_quiet_below (by kernel_rfl) (by kernel_rfl) ?_
            repeat (first | go_big_quiet_step (fail) | quiet_step (fail))
            refine wpQuiet_nil ?_
            intro _ hw'
            obtain ⟨⟨dq, osq⟩, hw2⟩ := hw'
            subst hw2
            have EE := hide (Ext.trans EE.out (ext_regrown _ dq osq))
            have c0 := (EE.out.cell (p := ⟨gl, k, none⟩) LG.out).trans hcell.out
            obtain ⟨u3, hwn⟩ : ∃ w, grow (redrawn u2 dq) osq = w := ⟨_, rfl⟩
            rw [hwn] at EE c0 ⊢
            clear hwn
            go_wp2_with fail
            go_roundw
            case rel => exact ⟨k + 1, by omega, by go_num, EE⟩
            case measure => simp [intOf]; omega
          · have KW := hide (fun w h => w_read C g2.length A' n' c' w hC1 (KW.out w h))
            have KP2 := hide (fun w => w_canon C g2 hC1 hlt2 hcan2 w)
            clear hlt2
            have hle2 : g2.length ≤ n' := by rw [← hm1.out]; exact hg22
            have hbt2 : Hid (BytesAt w9 A' g2) := by have := hbm.out.take g2.length; rw [htk2] at this; exact this
            have hs2 := run_upto A' n' g2.length c' (by have := hm2.out; omega)
            obtain ⟨e2, he2⟩ : ∃ v, g2.length = v := ⟨_, rfl⟩
            rw [he2] at KW hs2 hle2 hg21
            obtain ⟨o, ho⟩ : ∃ v, decide (C % 2 = 1) = v := ⟨_, rfl⟩
            obtain ⟨x0, hx0⟩ : ∃ v, w5 (C / 2) 0 = v := ⟨_, rfl⟩
            obtain ⟨x1, hx1⟩ : ∃ v, w5 (C / 2) 1 = v := ⟨_, rfl⟩
            obtain ⟨x2, hx2⟩ : ∃ v, w5 (C / 2) 2 = v := ⟨_, rfl⟩
            obtain ⟨x3, hx3⟩ : ∃ v, w5 (C / 2) 3 = v := ⟨_, rfl⟩
            rw [ho, hx0, hx1, hx2, hx3] at KW KP2
            have He2 := hide he2
            have t3 : decide (n' < e2) = false := decide_eq_false (by omega)
            have t4 : decide ((e2 : Int) < 1) = false := decide_eq_false (by omega)
            clear hg2 hcan2 htk2 hg22 hC hC1 he2 ho hx0 hx1 hx2 hx3
            go_upto_region 10 with (go_at_call 23; (with_reducible refine (KW.out _ EE.out).mono ?_); rintro e u1 ⟨rfl, hE⟩; have EE := hide (Ext.trans EE.out hE); clear hE)
            have Q2 := Blk.new u1 32 #[.bool o, .int .u64 (x0 : Int), .int .u64 (x1 : Int), .int .u64 (x2 : Int), .int .u64 (x3 : Int)]
            have EE := hide (Ext.trans EE.out (ext_alloc u1 (.cells #[.bool o, .int .u64 (x0 : Int), .int .u64 (x1 : Int), .int .u64 (x2 : Int), .int .u64 (x3 : Int)] 32)))
            obtain ⟨u2, hu2⟩ : ∃ w, u1.alloc (.cells #[.bool o, .int .u64 (x0 : Int), .int .u64 (x1 : Int), .int .u64 (x2 : Int), .int .u64 (x3 : Int)] 32) = w := ⟨_, rfl⟩
            rw [hu2] at EE Q2 ⊢
            obtain ⟨q, hq⟩ : ∃ g, u1.heap.size = g := ⟨_, rfl⟩
            rw [hq] at Q2 ⊢
            have c0 := (EE.out.cell (p := ⟨gl, k, none⟩) LG.out).trans hcell.out
            have Q2 : Box u2 q o x0 x1 x2 x3 := Q2
            obtain ⟨p0, p1, p2, p3, p4, _⟩ := five_cells Q2
            clear hu2 hq KW
            go_region_held3 (fun w' => w'.cell? ⟨gl, k, none⟩ = some (.slice A' n' c') ∧ w'.cell? ⟨q, 0, none⟩ = some (.bool o) ∧ w'.cell? ⟨q, 1, none⟩ = some (.int .u64 (x0 : Int)) ∧ w'.cell? ⟨q, 2, none⟩ = some (.int .u64 (x1 : Int)) ∧ w'.cell? ⟨q, 3, none⟩ = some (.int .u64 (x2 : Int)) ∧ w'.cell? ⟨q, 4, none⟩ = some (.int .u64 (x3 : Int))) (first | (with_reducible exact ⟨c0, p0, p1, p2, p3, p4⟩) | go_keep) (first
              | (go_at_call 24; (with_reducible refine (KP2.out _).mono ?_); rintro e z1 ⟨va, rfl, hO, hE⟩; have Q2 : Box z1 q o x0 x1 x2 x3 := (by first | exact Box.ext Q2 hE | exact Q2.drew.ext hE); obtain ⟨p0, p1, p2, p3, p4, _⟩ := five_cells Q2; have EE : Hid (Ext w9 z1) := (by first | exact hide (EE.out.trans hE) | exact hide ((EE.out.trans (ext_drew _)).trans hE)); have c0 := (EE.out.cell (p := ⟨gl, k, none⟩) LG.out).trans hcell.out; obtain ⟨A1, d1, rfl, -, -, hb1⟩ := hO.at_; have hb1 := hide hb1; clear hO hE)
              | (go_at_call 21; (with_reducible refine (r_same A1 A' _ _ d1 c' g2 g2 _ hb1.out (by first | exact hbt2.out.ext EE.out | exact hbt2.out.ext (Ext.trans EE.out (ext_drew _))) rfl He2.out true (decide_eq_true rfl)).mono ?_); rintro e z2 ⟨rfl, hE⟩; have Q2 : Box z2 q o x0 x1 x2 x3 := (by first | exact Box.ext Q2 hE | exact Q2.drew.ext hE); obtain ⟨p0, p1, p2, p3, p4, _⟩ := five_cells Q2; have EE : Hid (Ext w9 z2) := (by first | exact hide (EE.out.trans hE) | exact hide ((EE.out.trans (ext_drew _)).trans hE)); have c0 := (EE.out.cell (p := ⟨gl, k, none⟩) LG.out).trans hcell.out; clear hE))
            clear hb1 p0 p1 p2 p3 p4 Q2
            go_wp2_with fail
            go_roundw
            case rel => exact ⟨k + 1, by omega, by go_num, EE⟩
            case measure => simp [intOf]; omega
    · obtain rfl : k = 3 := by omega
      have KK : Hid (∀ w, Calls Try.prog 17 #[] w (Ret (.bool true) w)) := fun w => l_known5 w
      go_wp2_with (go_at_call 17; (with_reducible refine (KK.out _).mono ?_); rintro e u9 ⟨rfl, hE⟩)
      go_ret
      exact ⟨rfl, Ext.trans (Ext.trans E9.out EE.out) hE⟩
end Go.Proofs.Ytdboaogdanahkaa
