/- Layer 10: StampsCanonical. Conditions: the slices read as bytes and numbers. -/
import Derived.Test.YtjmigglibidbdaaLwTr
import Derived.Test.YtjmigglibidbdaaLwNc
import Derived.Deep.RegionHeld3
namespace Go.Proofs.Ytjmigglibidbdaa
set_option linter.unusedVariables false
set_option linter.unusedSimpArgs false
open Go Go.RowKit
set_option maxRecDepth 100000 in
set_option maxHeartbeats 64000000 in
theorem law_tcanon (R : Option Addr) (cr capr : Nat) (lr : List Nat) (fi nn : Int) (y : Option Addr) (len cap4 : Nat) (W : World)
    (hbr : BytesAt W R lr) (hcr : lr.length = cr) (hcr1 : cr ≤ capr) (hcr2 : capr ≤ 140737488351232) (hfi : I64 fi) (hnn : I64 nn) (hL : IsList W y len cap4) :
    Calls Try.prog 6 #[.slice R cr capr, .int .i64 fi, .int .i64 nn, .slice y len cap4] W (Ret (.bool true) W) := by
  have KN : Hid (Calls Try.prog 8 #[.slice y len cap4] W (NewPost W)) := t_new W y len cap4 hL
  have KL : Hid (∀ w, TapeOk W.heap.size w W.heap.size → Calls Try.prog 9 #[.pointer (some ⟨W.heap.size, 0, none⟩), .int .i64 20] w (TimesPost 20 W.heap.size W.heap.size w)) := hide (fun w h => t_times 20 W.heap.size W.heap.size (by omega) w h)
  have KK := hide (fun w => l_known10 w)
  have i12 : I64 12 := ⟨by omega, by omega⟩
  have i0 : I64 0 := ⟨by omega, by omega⟩
  have KM := hide (fun w => t_modI nn 12 w hnn i12)
  have Hr := hide hbr
  have Hcr := hide hcr
  have Hfi := hide hfi
  clear hL hbr hcr hfi
  go_enter Try.func6, Try.ntmps6
  go_upto_region 3 with (first
    | (go_at_call 8; (with_reducible refine (KN.out).mono ?_); rintro e w1 ⟨rfl, hT, hE⟩; have T1 := hide hT; have E1 := hide hE; have kl := hide (KL.out w1 hT); clear hT hE)
    | (go_at_call 9; (with_reducible refine (kl.out).mono ?_); rintro e w2 ⟨Am, n, cap, m, rfl, hn, hn20, hncap, hncap2, hinc, hO, hT2, hU2⟩; have hB2 : w1.heap.size ≤ w2.heap.size := hU2.2.2.2.1; have S2 := hide (Bt.of E1.out T1.out hO hT2 hU2); clear hO hT2 hU2 hncap hncap2))
  obtain ⟨B, hB⟩ : ∃ B, w1.heap.size = B := ⟨_, rfl⟩
  rw [hB] at S2 hB2
  have hq := S2.out.o.2
  have hln : m.length ≤ 65536 := by omega
  have hcl := codL_len m
  have hcq := codL_q hq
  have hsz := enN_len hcq (by omega)
  have hV := encV_le hcq
  rw [← enT_of hln hinc] at hsz
  obtain ⟨F, hF⟩ : ∃ F, (enT m).1 = F := ⟨_, rfl⟩
  rw [hF] at hsz
  obtain ⟨z, hz⟩ : ∃ z, F.length = z := ⟨_, rfl⟩
  rw [hz] at hsz
  have hz2 : z ≤ 1000 := by omega
  obtain ⟨ze, hze⟩ : ∃ ze, (enT m).2 = ze := ⟨_, rfl⟩
  have KE : Hid (Calls Try.prog 11 #[.slice Am n cap] w2 fun e w' => ∃ Ab cb, e = .returned (.tuple #[.slice Ab z cb, .int .i64 (ze : Int)]) ∧ z ≤ cb ∧ cb ≤ 9223372036854775807 ∧ OwnB B w' (.slice Ab z cb) F ∧ Ext w2 w') := hide ((p_encT Am n cap m w2 S2.out.times hn).mono fun e w' h => by
    obtain ⟨Ab, cb, rfl, h1, h2, ho, _, hE⟩ := h.parts
    simp only [hF, hz] at h1 ho
    exact ⟨Ab, cb, by rw [hF, hz, hze], h1, h2, ho.less hB2, hE⟩)
  have HF := hide hz
  obtain ⟨sz, hsz1⟩ : ∃ sz : Nat, max (n : Int) 1 = (sz : Int) := ⟨max n 1, by omega⟩
  have isz : I64 (sz : Int) := ⟨by omega, by omega⟩
  clear hB KN KL kl T1 E1 hn hq hln hsz hF hz hV hze hcl hcq hinc
  go_upto_region 4 with (go_at_call 11; (with_reducible refine (KE.out).mono ?_); rintro e w3 ⟨Ab, cb, rfl, hzb, hzb2, hO3, hE3⟩; have S3 := hide (show Nt W B Am n cap m Ab z cb F w3 from ⟨S2.out.ext hE3, hO3, Nat.le_trans hB2 hE3.size⟩); clear hE3 hO3)
  have gb := S3.out.s.gb
  clear KE S2
  go_upto_region 5 with (go_at_call 17; (with_reducible refine (KM.out _).mono ?_); rintro e w4 ⟨mm, rfl, hmm, rfl⟩; have m0 := hmm.1; have m1 := hmm.2.1 (by omega); clear hmm)
  obtain ⟨ma, hma⟩ : ∃ ma, (1 : Int) + mm = ma := ⟨_, rfl⟩
  rw [hma]
  have imm : I64 ma := ⟨by omega, by omega⟩
  clear hma m0 m1
  have H6 : Hid (([0] ++ lr).length = 1 + cr) := hide (by rw [List.length_append, Hcr.out]; rfl)
  have L6 : ([0] : List Nat).length + lr.length ≤ 225179981368000 := by rw [Hcr.out]; simp; omega
  have e5 := ext_alloc w3 (.cells #[.int .u8 0] 5)
  have r5 := hide ((Hr.out.ext S3.out.s.e).ext e5)
  have K5 := hide (own_lit w3 [0] (IsB.one (by omega)) (by simp) #[.int .u8 0] rfl (n := 1) rfl)
  have hs5 := e5.size
  have hgW : W.heap.size < w3.heap.size := Nat.lt_of_lt_of_le gb S3.out.bw
  clear e5
  go_upto_region 6 with (first
    | (at_builtin; refine wl_append8q (by kernel_rfl) (.tmp 35) (.tmp 36) rfl w3.heap.size _ [0] lr rfl K5.out R cr capr rfl r5.out Hcr.out L6 hs5 ?_; intro v6 w6 hO6 hG6 hA6; have hx6 := ext_lit (ext_alloc w3 _) K5.out hG6; have S6 := hide (S3.out.ext hx6); obtain ⟨A6, c6, rfl, hle6, hlf6, -⟩ := hO6.at_; rw [H6.out] at hle6 hO6 ⊢; have O6 := hide hO6; have k6 := hide (t_spoiled W.heap.size W.heap.size Ab z cb F w6 S6.out.s.t (bytes_of_own S6.out.b HF.out).1 HF.out (by omega)); clear hG6 hA6 hx6 hO6)
    | (go_at_call 19; (with_reducible refine (k6.out).mono ?_); rintro e w8 ⟨As, ns, caps, ls, rfl, hls, hns1, hns3, hns2, hbs, hnew, hT8, hU8⟩; have S8 := hide (S6.out.upd hU8 hT8); have Hls := hide hls; have bs8 := hide hbs; have b8 := hide (bytes_of_own (O6.out.upd hU8 hgW) H6.out).1; clear hls hbs hnew hT8 hU8))
  have Q9 := Blk.new w8 29 #[.slice R cr capr, .slice A6 (1 + cr) c6, .slice As ns caps, .slice Ab z cb]
  have E9 := ext_alloc w8 (.cells #[.slice R cr capr, .slice A6 (1 + cr) c6, .slice As ns caps, .slice Ab z cb] 29)
  obtain ⟨w9, hw9⟩ : ∃ w, w8.alloc (.cells #[.slice R cr capr, .slice A6 (1 + cr) c6, .slice As ns caps, .slice Ab z cb] 29) = w := ⟨_, rfl⟩
  rw [hw9] at Q9 E9 ⊢
  obtain ⟨g1, hg1⟩ : ∃ q, w8.heap.size = q := ⟨_, rfl⟩
  rw [hg1] at Q9 ⊢
  have Q9 := hide Q9
  have E9 := hide E9
  clear hw9 hg1 K5 r5 S3 S6 k6 O6 KM hs5
  go_upto_region 7 with fail
  have Q10 := Blk.new w9 3 #[.int .i64 ma, .int .i64 ma, .int .i64 (sz : Int), .int .i64 (sz : Int)]
  have E10 := ext_alloc w9 (.cells #[.int .i64 ma, .int .i64 ma, .int .i64 (sz : Int), .int .i64 (sz : Int)] 3)
  obtain ⟨w10, hw10⟩ : ∃ w, w9.alloc (.cells #[.int .i64 ma, .int .i64 ma, .int .i64 (sz : Int), .int .i64 (sz : Int)] 3) = w := ⟨_, rfl⟩
  rw [hw10] at Q10 E10 ⊢
  obtain ⟨g2, hg2⟩ : ∃ q, w9.heap.size = q := ⟨_, rfl⟩
  rw [hg2] at Q10 ⊢
  have Q11 := Q9.out.ext E10
  have E11 := Ext.trans E9.out E10
  have S11 := hide (S8.out.ext E11)
  have Hx : Hid (∀ (wr : World) (k : Nat), Ext w10 wr → k < 4 → ∃ (A : Option Addr) (c cap : Nat) (b : List Nat) (x : Int), wr.cell? ⟨g1, k, none⟩ = some (.slice A c cap) ∧ wr.cell? ⟨g2, k, none⟩ = some (.int .i64 x) ∧ BytesAt wr A b ∧ b.length = c ∧ c ≤ cap ∧ c ≤ 4611686018427387904 ∧ I64 x) := hide (fun wr k hE hk => by
    have q1 := Q11.ext hE
    have q2 := Q10.ext hE
    obtain rfl | rfl | rfl | rfl : k = 0 ∨ k = 1 ∨ k = 2 ∨ k = 3 := by omega
    · exact ⟨R, cr, capr, lr, ma, q1.cell 0, q2.cell 0, (Hr.out.ext S11.out.s.e).ext hE, Hcr.out, hcr1, by omega, imm⟩
    · exact ⟨A6, 1 + cr, c6, _, ma, q1.cell 1, q2.cell 1, (b8.out.ext E11).ext hE, H6.out, hle6, by omega, imm⟩
    · exact ⟨As, ns, caps, ls, sz, q1.cell 2, q2.cell 2, (bs8.out.ext E11).ext hE, Hls.out, hns1, by omega, isz⟩
    · exact ⟨Ab, z, cb, F, sz, q1.cell 3, q2.cell 3, (bytes_of_own S11.out.b HF.out).1.ext hE, HF.out, hzb, by omega, isz⟩)
  have hl1 := Q11.lt
  have hl2 := Q10.lt
  clear hw10 hg2 Q9 Q10 Q11 E9 E10 E11 S8 bs8 b8
  go_wp2_with fail
  go_loopw [16] (fun iv wr => ∃ k : Nat, k ≤ 4 ∧ iv = .int .i64 (k : Int) ∧ Hid (Ext w10 wr)) (fun iv _ => 4 - (intOf iv).toNat)
  case atStart => exact ⟨0, by omega, rfl, hide (Ext.refl _)⟩
  case round =>
    obtain ⟨k, hk, rfl, HE⟩ := hrel
    by_cases hlt : k < 4
    · have d0 : decide ((k : Int) < 4) = true := decide_eq_true (by omega)
      obtain ⟨A, c, cap5, b, x5, hc1, hc2, hb, hbl, hbc, hbc2, hx5⟩ := Hx.out wr k HE.out hlt
      have ix1 := idxBB g1 4 4 k hlt
      have ix2 := idxII g2 4 4 k hlt
      have C1 := hide hc1
      have G1 := hide (show g1 < wr.heap.size from Nat.lt_of_lt_of_le hl1 HE.out.size)
      have G2 := hide (show g2 < wr.heap.size from Nat.lt_of_lt_of_le hl2 HE.out.size)
      have C2 := hide hc2
      obtain ⟨L, nx, e1, hR⟩ : ∃ L nx e1, deT b 0 fi x5 = (L, nx, e1) := ⟨_, _, _, rfl⟩
      obtain ⟨mL, hmL⟩ : ∃ mL, L.length = mL := ⟨_, rfl⟩
      have EE : Hid (Ext wr wr) := Ext.refl _
      by_cases he : e1 = 0
      · subst he
        obtain ⟨hq, hin, h1, h2, h20, h21, _, h3, h4, h5, hok⟩ := deT_canon Hfi.out hR
        obtain ⟨x, rfl⟩ := Int.eq_ofNat_of_zero_le (show 0 ≤ nx by omega)
        rw [show (0 : Int).toNat = 0 from rfl, List.drop_zero, Int.toNat_natCast, Nat.sub_zero] at h5
        have hxc : x ≤ c := by omega
        have hbx := hide (hb.take x)
        have hbxl : (b.take x).length = x := by rw [List.length_take]; omega
        obtain ⟨q, hqq⟩ : ∃ q, b.take x = q := ⟨_, rfl⟩
        rw [hqq] at hbx hbxl h5
        have KD : Hid (∀ w, Ext wr w → Calls Try.prog 21 #[.slice A c cap5, .int .i64 0, .int .i64 fi, .int .i64 x5] w fun e w' => ∃ b3 o3 c3, e = .returned (.tuple #[.slice (some ⟨b3, o3, none⟩) mL c3, .int .i64 (x : Int), .int .i64 0]) ∧ TimesAt w' (some ⟨b3, o3, none⟩) L ∧ Ext w w') := hide (fun w hE => (p_deT A c cap5 b 0 fi x5 w (hb.ext hE) hbl hbc hbc2 i0 Hfi.out hx5 _ hR).mono fun e w' h => by
          obtain ⟨A3, c3, rfl, _, _, _, hw, hE⟩ := h.parts
          obtain ⟨b3, o3, rfl, _, _⟩ := hw.2.2 (by simp only; omega)
          exact ⟨b3, o3, c3, by rw [hmL], hw, hE⟩)
        have KE : Hid (∀ A3 c3 w, TimesAt w A3 L → Calls Try.prog 11 #[.slice A3 mL c3] w fun e w' => ∃ A4 c4, e = .returned (.tuple #[.slice A4 x c4, .int .i64 0]) ∧ BytesAt w' A4 q ∧ Ext w w') := hide (fun A3 c3 w hw => (p_encT A3 mL c3 L w hw hmL).mono fun e w' h => by
          obtain ⟨A4, c4, rfl, _, _, _, h3, hE⟩ := h.parts
          rw [h5] at h3
          exact ⟨A4, c4, by rw [h5, hbxl, hok]; rfl, h3, hE⟩)
        have KS : Hid (∀ A4 c4 w, Ext wr w → BytesAt w A4 q → Calls Try.prog 13 #[.slice A4 x c4, .slice A x cap5] w (Ret (.bool true) w)) := hide (fun A4 c4 w hw h => r_same A4 A x x c4 cap5 q q w h (hbx.out.ext hw) hbxl hbxl true (by simp))
        have KI : Hid (∀ A3 c3 w, TimesAt w A3 L → Calls Try.prog 14 #[.slice A3 mL c3] w (Ret (.bool true) w)) := hide (fun A3 c3 w h => p_inc A3 mL c3 L w h hmL true hin)
        have KC : Hid (∀ b3 o3 w, TimesAt w (some ⟨b3, o3, none⟩) L → w.cell? ⟨b3, o3, none⟩ = some (.int .i64 fi)) := hide (fun b3 o3 w h => by
          obtain ⟨_, _, he, _, hc⟩ := h.2.2 (by omega)
          cases he
          rw [← h21]
          exact hc 0 (by omega))
        have hup := run_upto A c x cap5 (by omega)
        have d3 : decide ((c : Int) < (x : Int)) = false := decide_eq_false (by omega)
        have d4 : decide (c < x) = false := decide_eq_false (by omega)
        have hm1 : 1 ≤ mL := by omega
        have hmx : (mL : Int) = x5 := by omega
        have d6 : ((mL : Int) != x5) = false := by rw [hmx]; simp
        have d7 : (fi != fi) = false := by simp
        have ix3 : ∀ (b3 o3 c3 : Nat) (w : World), (Instr.indexAt 22 (.slice (some ⟨b3, o3, none⟩) mL c3) (.int .i64 0)).run Try.prog w = .ok (.pointer (some ⟨b3, o3, none⟩)) w := fun b3 o3 c3 w => idxT b3 o3 mL c3 0 (by omega) w
        clear hb hbl hbc hbc2 hR hmL hq h1 h2 h3 h4 h5 hok hbxl hqq hbx hin h20 h21 hmx
        go_upto_region 10 with fail
        go_region_held3 (fun w' => w'.cell? ⟨g1, k, none⟩ = some (.slice A c cap5) ∧ w'.cell? ⟨g2, k, none⟩ = some (.int .i64 x5)) (first | (with_reducible exact ⟨hc1, hc2⟩) | go_keep) (first
          | (go_at_call 21; (with_reducible refine (KD.out _ (by first | exact EE.out | exact (Ext.trans EE.out (ext_drew _)))).mono ?_); rintro e z1 ⟨b3, o3, c3, rfl, hw3, hE⟩; have EE : Hid (Ext wr z1) := (by first | exact hide (EE.out.trans hE) | exact hide ((EE.out.trans (ext_drew _)).trans hE)); have hc1 := (EE.out.cell (p := ⟨g1, k, none⟩) G1.out).trans C1.out; have hc2 := (EE.out.cell (p := ⟨g2, k, none⟩) G2.out).trans C2.out; have W3 := hide hw3; have ke := hide (KE.out (some ⟨b3, o3, none⟩) c3 z1 hw3); clear hE hw3))
        go_wp2_with (first
          | (go_at_call 11; (with_reducible refine (ke.out).mono ?_); rintro e z2 ⟨A4, c4, rfl, hb4, hE⟩; have EE2 := hide (EE.out.trans hE); have hc1 := (EE2.out.cell (p := ⟨g1, k, none⟩) G1.out).trans C1.out; have W4 := hide (W3.out.ext hE); have ks := hide (KS.out A4 c4 z2 EE2.out hb4); clear hE hb4)
          | (go_at_call 13; (with_reducible refine (ks.out).mono ?_); rintro e z3 ⟨rfl, hE⟩; have EE3 := hide (EE2.out.trans hE); have hc2 := (EE3.out.cell (p := ⟨g2, k, none⟩) G2.out).trans C2.out; have W5 := hide (W4.out.ext hE); have cx := KC.out b3 o3 z3 W5.out; have ki := hide (KI.out (some ⟨b3, o3, none⟩) c3 z3 W5.out); clear hE)
          | (go_at_call 14; (with_reducible refine (ki.out).mono ?_); rintro e z4 ⟨rfl, hE⟩; have EE4 := hide (EE3.out.trans hE); clear hE))
        have HE2 := hide (Ext.trans HE.out EE4.out)
        go_roundw
        case rel => exact ⟨k + 1, by omega, by go_num, HE2⟩
        case measure => simp [intOf]; omega
      · have d3 : (e1 != 0) = true := by rw [bne_iff_ne]; exact he
        have KD : Hid (∀ w, Ext wr w → Calls Try.prog 21 #[.slice A c cap5, .int .i64 0, .int .i64 fi, .int .i64 x5] w fun e w' => ∃ A3 c3, e = .returned (.tuple #[.slice A3 mL c3, .int .i64 nx, .int .i64 e1]) ∧ Ext w w') := hide (fun w hE => (p_deT A c cap5 b 0 fi x5 w (hb.ext hE) hbl hbc hbc2 i0 Hfi.out hx5 _ hR).mono fun e w' h => by
          obtain ⟨A3, c3, rfl, _, _, _, _, hE⟩ := h.parts
          exact ⟨A3, c3, by rw [hmL], hE⟩)
        clear hb hbl hbc hbc2 hR hmL he
        go_upto_region 10 with fail
        go_region_held3 (fun w' => w'.cell? ⟨g1, k, none⟩ = some (.slice A c cap5) ∧ w'.cell? ⟨g2, k, none⟩ = some (.int .i64 x5)) (first | (with_reducible exact ⟨hc1, hc2⟩) | go_keep) (first
          | (go_at_call 21; (with_reducible refine (KD.out _ (by first | exact EE.out | exact (Ext.trans EE.out (ext_drew _)))).mono ?_); rintro e z1 ⟨A3, c3, rfl, hE⟩; have EE : Hid (Ext wr z1) := (by first | exact hide (EE.out.trans hE) | exact hide ((EE.out.trans (ext_drew _)).trans hE)); have hc1 := (EE.out.cell (p := ⟨g1, k, none⟩) G1.out).trans C1.out; have hc2 := (EE.out.cell (p := ⟨g2, k, none⟩) G2.out).trans C2.out; clear hE))
        have HE2 := hide (Ext.trans HE.out EE.out)
        go_wp2_with fail
        go_roundw
        case rel => exact ⟨k + 1, by omega, by go_num, HE2⟩
        case measure => simp [intOf]; omega
    · obtain rfl : k = 4 := by omega
      go_wp2_with (go_at_call 16; (with_reducible refine (KK.out _).mono ?_); rintro e w12 ⟨rfl, hE⟩; have EE := hide (Ext.trans S11.out.s.e (Ext.trans HE.out hE)); clear hE)
      go_ret
      exact ⟨rfl, EE.out⟩
end Go.Proofs.Ytjmigglibidbdaa
