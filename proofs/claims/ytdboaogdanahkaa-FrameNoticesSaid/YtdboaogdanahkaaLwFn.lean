/- Layer 7: FrameNotices. Conditions: the slices read as bytes. -/
import Derived.Test.YtdboaogdanahkaaFrmH
import Derived.Test.YtdboaogdanahkaaFrmQ
import Derived.Test.YtdboaogdanahkaaByD
import Derived.Test.YtdboaogdanahkaaLawB
namespace Go.Proofs.Ytdboaogdanahkaa
set_option linter.unusedVariables false
set_option linter.unusedSimpArgs false
open Go Go.RowKit
theorem p_fdec7 (A : Option Addr) (c cap : Nat) (l : List Nat) (at_ : Int) (W : World) (hb : BytesAt W A l) (hc : l.length = c) (hcap : c ≤ cap) (hcap2 : c ≤ 4611686018427387904) (hat : I64 at_) :
    Calls Try.prog 33 #[.slice A c cap, .int .i64 at_] W (FrmRet (frR l at_).1 (frR l at_).2.1 (frR l at_).2.2.1 (frR l at_).2.2.2 W) := by
  unfold frR
  by_cases h : at_ < 0 ∨ (l.length : Int) < at_
  · rw [if_pos h]
    exact p_fdecode_out A c cap at_ W hcap2 hat (by rw [hc] at h; exact h)
  · rw [if_neg h]
    obtain ⟨a, rfl⟩ := Int.eq_ofNat_of_zero_le (show 0 ≤ at_ by omega)
    exact p_fdecode A c cap a l W hb hc hcap hcap2 (by omega) _ _ _ _ rfl
set_option maxRecDepth 100000 in
set_option maxHeartbeats 16000000 in
theorem law_fnot (kd : Nat) (A : Option Addr) (c cap : Nat) (l : List Nat) (A2 : Option Addr) (ct capt : Nat) (lt : List Nat) (at_ : Int) (pat : Nat) (W : World) (hk : kd < 256)
    (hb : BytesAt W A l) (hc : l.length = c) (hcap : c ≤ cap) (hcap2 : cap ≤ 140737488351232) (hbt : BytesAt W A2 lt) (hct : lt.length = ct) (hct1 : ct ≤ capt) (hct2 : capt ≤ 140737488351232) (hat : I64 at_) (hpat : pat < 4294967296) :
    Calls Try.prog 8 #[.int .u8 (kd : Int), .slice A c cap, .slice A2 ct capt, .int .i64 at_, .int .u32 (pat : Int)] W (Ret (.bool true) W) := by
  obtain ⟨d, hd⟩ : ∃ d, min c 4194304 = d := ⟨_, rfl⟩
  have hmin : min (c : Int) 4194304 = (d : Int) := by omega
  have hdc : d ≤ c := by omega
  have hd4 : d ≤ 4194304 := by omega
  have hs := run_upto A c d cap (by omega)
  have hbd := hb.take d
  obtain ⟨p, hp⟩ : ∃ p, l.take d = p := ⟨_, rfl⟩
  rw [hp] at hbd
  have hpl : p.length = d := by rw [← hp, List.length_take]; omega
  have K1 : Hid (Calls Try.prog 25 #[.int .u8 (kd : Int), .slice A d cap] W (OwnE (frE kd p) 0 W)) := p_fencode kd A d cap p W hk hbd hpl (by omega) _ _ (by unfold frN; rw [if_neg (by omega)])
  have KM : Hid (∀ w, Calls Try.prog 15 #[.int .i64 at_, .int .i64 (8 * ((d : Int) + 13))] w (IntIn (InN (8 * ((d : Int) + 13))) .i64 w)) := fun w => (t_mod at_ (8 * ((d : Int) + 13)) w hat ⟨by omega, by omega⟩).mono fun _ _ q => ⟨_, q.1, modN_in _ _, q.2.symm⟩
  have Hbst : Hid (∀ (q : List Nat) (P a K : Nat), IsB q → q.length = d + 13 → P < 2 ^ K → K ≤ 32 → a + K ≤ 8 * (d + 13) → valLE q = valLE (frE kd p) ^^^ (P <<< a) → (frR (q ++ lt) 0).2.2.2 = if P ≠ 0 then 6 else 0) := fun q P a K h1 h2 h3 h4 h5 h6 => frR_burst hk hbd.1 (by omega) h1 (by omega) P a K h3 h4 (by omega) h6
  have hml : (frE kd p).length = d + 13 := by rw [frE_len, hpl]
  obtain ⟨m, hm⟩ : ∃ F, frE kd p = F := ⟨_, rfl⟩
  rw [hm] at K1 Hbst hml
  have Hml := hide hml
  have q2 : decide ((d : Int) + 13 < 13) = false := decide_eq_false (by omega)
  have HT := hide hbt
  have Hct := hide hct
  have Hhat := hide hat
  clear hb hc hd hp hbd hpl hm hml hbt hct hat
  go_enter Try.func8, Try.ntmps8
  go_upto_region 3 with (go_at_call 25; (with_reducible refine (K1.out).mono ?_); rintro en w1 ⟨v1, rfl, hO, hE⟩)
  obtain ⟨A1, cap1, rfl, hle1, hcap1, _⟩ := hO.at_
  rw [Hml.out] at hO hle1 ⊢
  obtain ⟨g, rest, rfl, hgW, hrow, _, hcapr, _⟩ := own_block hO (by omega)
  have hmb := hO.2
  have HE := hide hE
  have Hrow := hide hrow
  have Hcapr := hide hcapr
  have hmb := hide hmb
  have Hcp1 := hide hcap1
  clear hO hE hrow hcapr hcap1
  go_upto_region 6 with (go_at_call 15; (with_reducible refine (KM.out _).mono ?_); rintro en w1' ⟨v, rfl, hv, rfl⟩)
  have v0 := hv.1
  have v1 := hv.2.1 (by omega)
  obtain ⟨a, rfl⟩ := Int.eq_ofNat_of_zero_le v0
  have ha : a < 8 * (d + 13) := by omega
  clear v0 v1 hv
  go_wp2_with fail
  go_loopw [13, 14] (fun chv i wr => ∃ (k : Nat) (ch : Bool) (q : List Nat), k ≤ 32 ∧ a + k ≤ 8 * (d + 13) ∧ i = .int .i64 k ∧ chv = .bool ch ∧ Hid (Bst m a pat W.heap.size g rest k ch q wr) ∧ Hid (Below W.heap.size W wr)) (fun _ i _ => 32 - (intOf i).toNat)
  case atStart => exact ⟨0, false, m, by omega, by omega, rfl, rfl, hide ⟨hmb.out, rfl, by simp [Pk], by simp [Pk], Hrow.out⟩, HE⟩
  case round =>
    clear Hrow HE
    obtain ⟨k, ch, q, hk, hak, rfl, rfl, HB, HE⟩ := hrel
    by_cases h32 : k < 32
    · have n32 : (k : Int) < 32 := by omega
      have hd32 : decide ((k : Int) < 32) = true := decide_eq_true n32
      by_cases h8 : a + k < 8 * (d + 13)
      · have hj : (a + k) / 8 < d + 13 := by omega
        have hjq : (a + k) / 8 < q.length := by rw [HB.out.len, Hml.out]; exact hj
        have hix := idxB g (d + 13) cap1 ((a + k) / 8) (((a : Int) + (k : Int)) / 8) (by omega) hj
        have c1 : wr.cell? ⟨g, (a + k) / 8, none⟩ = some (.int .u8 ((q.getD ((a + k) / 8) 0 : Nat) : Int)) := by
          rw [cell_of_row wr g _ _ _ _ HB.out.row, getD_lt hjq]
          simp [u8s, hjq, List.getElem?_append_left]
        have f1 : wr.frozen? ⟨g, (a + k) / 8, none⟩ = false := Blk.frozen (show Blk wr g 5 (u8s q ++ rest).toArray from HB.out.row) _
        have hbt := bit_at pat k hpat
        obtain ⟨y, hy⟩ : ∃ y, q.getD ((a + k) / 8) 0 = y := ⟨_, rfl⟩
        have hy256 : y < 256 := by rw [← hy]; exact HB.out.b.get _
        rw [hy] at c1
        have Hy := hide hy
        have kb := (Nat.mod_lt (a + k) (show 0 < 8 by omega))
        have hxv := xor_bit y ((a + k) % 8) hy256 kb
        have Hlt := hide (show a + k < 8 * m.length by rw [Hml.out]; exact h8)
        clear hjq hy kb
        cases hbit : Nat.testBit pat k with
        | false =>
          rw [hbit] at hbt
          have Hbit := hide hbit
          clear hbit
          go_wp2_with fail
          go_roundw
          case rel => exact ⟨k + 1, ch, q, by omega, by omega, by go_num, rfl, hide (HB.out.skip Hbit.out), HE⟩
          case measure => simp [intOf]; omega
        | true =>
          rw [hbit] at hbt
          have Hbit := hide hbit
          clear hbit
          go_wp2_with fail
          go_roundw
          case rel => exact ⟨k + 1, true, flip q (a + k), by omega, by omega, by go_num, rfl, hide (HB.out.flip Hbit.out Hlt.out _ (by rw [Hy.out])), hide (HE.out.setCell hgW _)⟩
          case measure => simp [intOf]; omega
      · have n8 : ¬ ((a : Int) + (k : Int) < 8 * ((d : Int) + 13)) := by omega
        have hd8 : decide ((a : Int) + (k : Int) < 8 * ((d : Int) + 13)) = false := decide_eq_false n8
        have fin := Hbst.out q (Pk pat k) a k HB.out.b (by rw [HB.out.len]; exact Hml.out) (Pk_lt pat k) hk (by omega) HB.out.val
        have hql : q.length = d + 13 := by rw [HB.out.len]; exact Hml.out
        have hO : OwnB W.heap.size wr (.slice (some ⟨g, 0, none⟩) (d + 13) cap1) q := by
          refine ⟨?_, HB.out.b⟩
          rw [hql]
          refine ⟨by rw [u8s_len, hql]; omega, Or.inr ⟨g, cap1, _, rfl, hgW, HB.out.row, hle1, by unfold maxLen; exact Hcp1.out, ?_, ?_⟩⟩
          · rw [List.size_toArray, List.length_append, u8s_len, hql]; have := Hcapr.out; omega
          · exact List.take_left' (by rw [u8s_len, hql]; omega)
        have hO := hide hO
        have hbt2 := hide (HT.out.ext HE.out)
        have hle5 : q.length + lt.length ≤ 225179981368000 := by rw [hql, Hct.out]; omega
        have hsz5 := hide HE.out.size
        have hc5 := HB.out.ch
        rw [show (if Pk pat k ≠ 0 then 6 else 0) = (if ch = true then 6 else 0) by rw [hc5]; simp] at fin
        have H5 : Hid ((q ++ lt).length = d + 13 + ct) := by show _ = _; rw [List.length_append, hql, Hct.out]
        have KD : Hid (∀ w A c, BytesAt w A (q ++ lt) → d + 13 + ct ≤ c → c ≤ 9223372036854775807 → ∃ k p n, Calls Try.prog 33 #[.slice A (d + 13 + ct) c, .int .i64 0] w (FrmRet k p n (if ch = true then 6 else 0) w)) := fun w A c h h2 h3 => by
          have := p_fdec7 A (d + 13 + ct) c (q ++ lt) 0 w h H5.out h2 (by omega) ⟨by omega, by omega⟩
          rw [fin] at this
          exact ⟨_, _, _, this⟩
        have KK : Hid (∀ w, Calls Try.prog 27 #[] w (Ret (.bool true) w)) := fun w => l_known7 w
        clear fin HB hc5
        go_upto_region 14 with (first
          | (at_builtin; refine wl_append8w rfl (.tmp 76) (.tmp 77) rfl W.heap.size (.slice (some ⟨g, 0, none⟩) (d + 13) cap1) q lt rfl hO.out A2 ct capt rfl hbt2.out Hct.out hle5 hsz5.out ?_; intro v6 w6 hO6 hG6 _; have E6 := hide (below_grown HE.out (Nat.le_refl _) hO.out hG6); obtain ⟨A6, c6, rfl, hle6, hcm6, hb6⟩ := hO6.at_; rw [H5.out] at hle6 ⊢; obtain ⟨k6, p6, n6, kd6⟩ := KD.out w6 A6 c6 hb6 hle6 hcm6; have kd6 := hide kd6; clear hG6 hO6 hb6)
          | (go_at_call 33; (with_reducible refine (kd6.out).mono ?_); rintro en w7 ⟨v7, rfl, hO7, hE7⟩; obtain ⟨A7, c7, rfl, -, -, -⟩ := hO7.at_; have hE7 := hide hE7; clear hO7))
        have E8 := Ext.trans (Ext.trans E6.out hE7.out) (ext_alloc w7 (.cells #[.int .u8 (k6 : Int), .slice A7 p6.length c7] 56))
        obtain ⟨w8, hw8⟩ : ∃ w, w7.alloc (.cells #[.int .u8 (k6 : Int), .slice A7 p6.length c7] 56) = w := ⟨_, rfl⟩
        rw [hw8] at E8 ⊢
        have E8 := hide E8
        clear hw8 hO KD
        cases ch with
        | false =>
          go_wp2_with (go_at_call 27; (with_reducible refine (KK.out _).mono ?_); rintro en w9 ⟨rfl, hE9⟩)
          go_ret
          exact ⟨rfl, Ext.trans E8.out hE9⟩
        | true =>
          go_wp2_with (go_at_call 27; (with_reducible refine (KK.out _).mono ?_); rintro en w9 ⟨rfl, hE9⟩)
          go_ret
          exact ⟨rfl, Ext.trans E8.out hE9⟩
    · have n32 : ¬ ((k : Int) < 32) := by omega
      have hd32 : decide ((k : Int) < 32) = false := decide_eq_false n32
      have fin := Hbst.out q (Pk pat k) a k HB.out.b (by rw [HB.out.len]; exact Hml.out) (Pk_lt pat k) hk (by omega) HB.out.val
      have hql : q.length = d + 13 := by rw [HB.out.len]; exact Hml.out
      have hO : OwnB W.heap.size wr (.slice (some ⟨g, 0, none⟩) (d + 13) cap1) q := by
        refine ⟨?_, HB.out.b⟩
        rw [hql]
        refine ⟨by rw [u8s_len, hql]; omega, Or.inr ⟨g, cap1, _, rfl, hgW, HB.out.row, hle1, by unfold maxLen; exact Hcp1.out, ?_, ?_⟩⟩
        · rw [List.size_toArray, List.length_append, u8s_len, hql]; have := Hcapr.out; omega
        · exact List.take_left' (by rw [u8s_len, hql]; omega)
      have hO := hide hO
      have hbt2 := hide (HT.out.ext HE.out)
      have hle5 : q.length + lt.length ≤ 225179981368000 := by rw [hql, Hct.out]; omega
      have hsz5 := hide HE.out.size
      have hc5 := HB.out.ch
      rw [show (if Pk pat k ≠ 0 then 6 else 0) = (if ch = true then 6 else 0) by rw [hc5]; simp] at fin
      have H5 : Hid ((q ++ lt).length = d + 13 + ct) := by show _ = _; rw [List.length_append, hql, Hct.out]
      have KD : Hid (∀ w A c, BytesAt w A (q ++ lt) → d + 13 + ct ≤ c → c ≤ 9223372036854775807 → ∃ k p n, Calls Try.prog 33 #[.slice A (d + 13 + ct) c, .int .i64 0] w (FrmRet k p n (if ch = true then 6 else 0) w)) := fun w A c h h2 h3 => by
        have := p_fdec7 A (d + 13 + ct) c (q ++ lt) 0 w h H5.out h2 (by omega) ⟨by omega, by omega⟩
        rw [fin] at this
        exact ⟨_, _, _, this⟩
      have KK : Hid (∀ w, Calls Try.prog 27 #[] w (Ret (.bool true) w)) := fun w => l_known7 w
      clear fin HB hc5
      go_upto_region 14 with (first
        | (at_builtin; refine wl_append8w rfl (.tmp 76) (.tmp 77) rfl W.heap.size (.slice (some ⟨g, 0, none⟩) (d + 13) cap1) q lt rfl hO.out A2 ct capt rfl hbt2.out Hct.out hle5 hsz5.out ?_; intro v6 w6 hO6 hG6 _; have E6 := hide (below_grown HE.out (Nat.le_refl _) hO.out hG6); obtain ⟨A6, c6, rfl, hle6, hcm6, hb6⟩ := hO6.at_; rw [H5.out] at hle6 ⊢; obtain ⟨k6, p6, n6, kd6⟩ := KD.out w6 A6 c6 hb6 hle6 hcm6; have kd6 := hide kd6; clear hG6 hO6 hb6)
        | (go_at_call 33; (with_reducible refine (kd6.out).mono ?_); rintro en w7 ⟨v7, rfl, hO7, hE7⟩; obtain ⟨A7, c7, rfl, -, -, -⟩ := hO7.at_; have hE7 := hide hE7; clear hO7))
      have E8 := Ext.trans (Ext.trans E6.out hE7.out) (ext_alloc w7 (.cells #[.int .u8 (k6 : Int), .slice A7 p6.length c7] 56))
      obtain ⟨w8, hw8⟩ : ∃ w, w7.alloc (.cells #[.int .u8 (k6 : Int), .slice A7 p6.length c7] 56) = w := ⟨_, rfl⟩
      rw [hw8] at E8 ⊢
      have E8 := hide E8
      clear hw8 hO KD
      cases ch with
      | false =>
        go_wp2_with (go_at_call 27; (with_reducible refine (KK.out _).mono ?_); rintro en w9 ⟨rfl, hE9⟩)
        go_ret
        exact ⟨rfl, Ext.trans E8.out hE9⟩
      | true =>
        go_wp2_with (go_at_call 27; (with_reducible refine (KK.out _).mono ?_); rintro en w9 ⟨rfl, hE9⟩)
        go_ret
        exact ⟨rfl, Ext.trans E8.out hE9⟩
end Go.Proofs.Ytdboaogdanahkaa
