/- Layer 10: StampsBack. Conditions: the slices read as bytes; their lengths are small. -/
import Derived.Test.YtjmigglibidbdaaTms3
namespace Go.Proofs.Ytjmigglibidbdaa
set_option linter.unusedVariables false
set_option linter.unusedSimpArgs false
open Go Go.RowKit
set_option maxRecDepth 100000 in
set_option maxHeartbeats 6400000 in
theorem law_tback (y : Option Addr) (len cap4 : Nat) (A2 : Option Addr) (cu capu : Nat) (lu : List Nat) (A3 : Option Addr) (ct capt : Nat) (lt : List Nat) (W : World) (hL : IsList W y len cap4)
    (hbu : BytesAt W A2 lu) (hcu : lu.length = cu) (hcu2 : cu ≤ 1048576) (hbt : BytesAt W A3 lt) (hct : lt.length = ct) (hct2 : ct ≤ 1048576) :
    Calls Try.prog 5 #[.slice y len cap4, .slice A2 cu capu, .slice A3 ct capt] W (Ret (.bool true) W) := by
  have KN : Hid (Calls Try.prog 8 #[.slice y len cap4] W (NewPost W)) := t_new W y len cap4 hL
  have KL : Hid (∀ w, TapeOk W.heap.size w W.heap.size → Calls Try.prog 9 #[.pointer (some ⟨W.heap.size, 0, none⟩), .int .i64 30] w (TimesPost 30 W.heap.size W.heap.size w)) := hide (fun w h => t_times 30 W.heap.size W.heap.size (by omega) w h)
  have KK := hide (fun w => l_known10 w)
  have Hu := hide hbu
  have Ht := hide hbt
  have Hcu := hide hcu
  have Hct := hide hct
  clear hL hbu hcu hbt hct
  go_enter Try.func5, Try.ntmps5
  go_upto_region 2 with (first
    | (go_at_call 8; (with_reducible refine (KN.out).mono ?_); rintro e w1 ⟨rfl, hT, hE⟩; have T1 := hide hT; have E1 := hide hE; have kl := hide (KL.out w1 hT); clear hT hE)
    | (go_at_call 9; (with_reducible refine (kl.out).mono ?_); rintro e w2 ⟨Am, n, cap, m, rfl, hn, hn30, hncap, -, hinc, hO, hT2, hU2⟩; have S2 := hide (Bt.of E1.out T1.out hO hT2 hU2); have Hi := hide hinc; have Hn := hide hn; clear hO hT2 hU2 hncap hinc hn))
  clear KN KL kl T1 E1
  by_cases h0 : n = 0
  · have d0 : ((n : Int) == 0) = true := by rw [beq_iff_eq]; omega
    have EW2 := hide (Ext.trans S2.out.e (ext_alloc w2 (.cells #[.int .i64 7] 2)))
    have HM2 := hide (new_atT w2 [7] (IsT.one ⟨by omega, by omega⟩) (by simp) #[.int .i64 7] rfl)
    clear Hi Hn hn30
    go_upto_region 4 with fail
    obtain ⟨wz, hw3⟩ : ∃ w, w2.alloc (.cells #[.int .i64 7] 2) = w := ⟨_, rfl⟩
    rw [hw3] at EW2 HM2 ⊢
    obtain ⟨q, hq⟩ : ∃ q : Nat, 1 = q := ⟨_, rfl⟩
    have hsl : Value.slice (some ⟨w2.heap.size, 0, none⟩) 1 1 = Value.slice (some ⟨w2.heap.size, 0, none⟩) q q := by rw [hq]
    rw [hsl]
    obtain ⟨A5, hA5⟩ : ∃ A5, (some ⟨w2.heap.size, 0, none⟩ : Option Addr) = A5 := ⟨_, rfl⟩
    rw [hA5] at HM2 ⊢
    obtain ⟨m5, hm5⟩ : ∃ m5 : List Int, [7] = m5 := ⟨_, rfl⟩
    rw [hm5] at HM2
    have Hi : Hid (incB m5 = true) := hide (by rw [← hm5]; decide +kernel)
    have Hn : Hid (m5.length = q) := hide (by rw [← hm5, ← hq]; rfl)
    have hn30 : q ≤ 30 := by omega
    have hn1 : 1 ≤ q := by omega
    have EW := EW2
    have HM := HM2
    clear hw3 hq hsl hA5 hm5 S2 d0 h0 EW2 HM2
    have hinc := Hi.out
    have ht := HM.out.1
    have hn := Hn.out
    have hln : m5.length ≤ 65536 := by omega
    have hcq := codL_q ht
    have hcl := codL_len m5
    have hsz := enN_len hcq (by omega)
    have hV := encV_le hcq
    have hen := enT_of hln hinc
    have hok : (enT m5).2 = 0 := by rw [hen]; exact enN_ok (by omega)
    rw [← hen] at hsz
    obtain ⟨f, hf⟩ : ∃ f, m5.getD 0 0 = f := ⟨_, rfl⟩
    have HD : Hid (deT (lu ++ (enT m5).1 ++ lt) (cu : Int) f (q : Int) = (m5, (cu : Int) + ((enT m5).1.length : Int), 0)) := by
      have := deT_enc m5 lu lt ht hinc (by omega) hln
      rw [Hcu.out, hn, hf] at this
      exact this
    have hif : I64 f := by rw [← hf]; exact ht.get 0
    obtain ⟨F, hF⟩ : ∃ F, (enT m5).1 = F := ⟨_, rfl⟩
    rw [hF] at HD hsz
    obtain ⟨z, hz⟩ : ∃ z, F.length = z := ⟨_, rfl⟩
    rw [hz] at hsz HD
    have hz2 : z ≤ 1000 := by omega
    have KE : Hid (Calls Try.prog 11 #[.slice A5 q q] wz fun e w' => ∃ A4 c4, e = .returned (.tuple #[.slice A4 z c4, .int .i64 0]) ∧ BytesAt w' A4 F ∧ Ext wz w') := hide ((p_encT A5 q q m5 wz HM.out hn).mono fun e w' h => by
      obtain ⟨A4, c4, rfl, _, _, _, hb, hE⟩ := h.parts
      rw [hF] at hb
      exact ⟨A4, c4, by rw [hF, hz, hok]; rfl, hb, hE⟩)
    have HF := hide hz
    obtain ⟨bm, om, rfl, hbm, hcm⟩ := HM.out.2.2 (by omega)
    have cm := hcm 0 (by omega)
    rw [hf, Nat.add_zero] at cm
    have Cm := hide cm
    have Hbm := hide hbm
    have ix0 : ∀ w, (Instr.indexAt 22 (.slice (some ⟨bm, om, none⟩) q q) (.int .i64 0)).run Try.prog w = .ok (.pointer (some ⟨bm, om, none⟩)) w := fun w => idxT bm om q q 0 (by omega) w
    clear hn hinc ht hcq hcl hen hln hsz hok hF hz hV hf hbm hcm cm
    go_upto_region 5 with (go_at_call 11; (with_reducible refine (KE.out).mono ?_); rintro e w3 ⟨A4, c4, rfl, hb3, hE3⟩; have S3 := hide (EW.out.trans hE3); have M3 := hide (HM.out.ext hE3); have C3 := hide ((hE3.cell (p := ⟨bm, om, none⟩) Hbm.out).trans Cm.out); have B3 := hide (Nat.lt_of_lt_of_le Hbm.out hE3.size); have b3 := hide hb3; clear hb3 hE3)
    have E4 : Hid (Ext w3 (w3.alloc (.cells #[] 5))) := ext_alloc w3 _
    have O4 := hide (own_of (B := w3.heap.size) (w := w3.alloc (.cells #[] 5)) (g := w3.heap.size) (n := 0) (cap := 0) (l := []) (m := []) (Nat.le_refl _) (heap_alloc_new w3 _) rfl rfl (by omega) IsB.nil)
    have hs4 := hide E4.out.size
    have hbu3 := hide (Hu.out.ext S3.out)
    have hbt3 := hide (Ht.out.ext S3.out)
    have hbu4 := hide (hbu3.out.ext E4.out)
    have hle0 : ([] : List Nat).length + lu.length ≤ 140737488355328 := by rw [Hcu.out]; simp; omega
    have hle3 : ([] ++ lu : List Nat).length + F.length ≤ 140737488355328 := by rw [List.nil_append, Hcu.out, HF.out]; omega
    have hle4 : ([] ++ lu ++ F : List Nat).length + lt.length ≤ 140737488355328 := by rw [List.nil_append, List.length_append, Hcu.out, HF.out, Hct.out]; omega
    have H5 : Hid (([] ++ lu ++ F ++ lt).length = cu + z + ct) := by show _ = _; rw [List.nil_append, List.length_append, List.length_append, Hcu.out, HF.out, Hct.out]
    clear KE HM EW Cm Hbm
    go_upto_region 6 with (first
      | (at_builtin; refine wl_append8 rfl (.tmp 26) (.tmp 27) rfl w3.heap.size (.slice (some ⟨w3.heap.size, 0, none⟩) 0 0) [] lu rfl O4.out A2 cu capu rfl hbu4.out Hcu.out hle0 hs4.out ?_; intro v5 w5 hO5 hG5 _; have E5 := hide (below_grown E4.out (Nat.le_refl _) O4.out hG5); have O5 := hide hO5; have hs5 := hide E5.out.size; have b5 := hide (b3.out.ext E5.out); clear hG5 hO5)
      | (at_builtin; refine wl_append8 rfl (.tmp 28) (.tmp 29) rfl w3.heap.size v5 ([] ++ lu) F rfl O5.out A4 z c4 rfl b5.out HF.out hle3 hs5.out ?_; intro v6 w6 hO6 hG6 _; have E6 := hide (below_grown E5.out (Nat.le_refl _) O5.out hG6); have O6 := hide hO6; have hs6 := hide E6.out.size; have b6 := hide (hbt3.out.ext E6.out); clear hG6 hO6)
      | (at_builtin; refine wl_append8 rfl (.tmp 30) (.tmp 31) rfl w3.heap.size v6 ([] ++ lu ++ F) lt rfl O6.out A3 ct capt rfl b6.out Hct.out hle4 hs6.out ?_; intro v7 w7 hO7 hG7 _; have E7 := hide (below_grown E6.out (Nat.le_refl _) O6.out hG7); have O7 := hide hO7; clear hG7 hO7))
    obtain ⟨A7, c7, rfl, hle7, -, hb7⟩ := O7.out.at_
    rw [H5.out] at hle7 ⊢
    have S7 := hide (S3.out.trans E7.out)
    have M7 := hide (M3.out.ext E7.out)
    have c0 : w7.cell? ⟨bm, om, none⟩ = some (.int .i64 f) := (E7.out.cell (p := ⟨bm, om, none⟩) B3.out).trans C3.out
    have i1 : I64 (cu : Int) := ⟨by omega, by omega⟩
    have i2 : I64 (q : Int) := ⟨by omega, by omega⟩
    have KD : Hid (Calls Try.prog 21 #[.slice A7 (cu + z + ct) c7, .int .i64 (cu : Int), .int .i64 f, .int .i64 (q : Int)] w7 fun e w' => ∃ A8 c8, e = .returned (.tuple #[.slice A8 q c8, .int .i64 ((cu : Int) + (z : Int)), .int .i64 0]) ∧ TimesAt w' A8 m5 ∧ Ext w7 w') := hide ((p_deT A7 (cu + z + ct) c7 ([] ++ lu ++ F ++ lt) (cu : Int) f (q : Int) w7 hb7 H5.out hle7 (by omega) i1 hif i2 (m5, (cu : Int) + (z : Int), 0) (by rw [List.nil_append]; exact HD.out)).mono fun e w' h => by
      obtain ⟨A8, c8, rfl, _, _, _, hw, hE⟩ := h.parts
      exact ⟨A8, c8, by simp only [Hn.out], hw, hE⟩)
    clear O4 O5 O6 O7 E4 E5 E6 E7 b3 b5 b6 hb7 hbu3 hbu4 hbt3 hs4 hs5 hs6 hle0 hle3 hle4 HD S3 M3 C3 B3
    have KS : Hid (∀ A1 c1 A8 c8 w, TimesAt w A1 m5 → TimesAt w A8 m5 → Calls Try.prog 22 #[.slice A1 q c1, .slice A8 q c8] w (Ret (.bool true) w)) := hide (fun A1 c1 A8 c8 w s h => t_same A1 A8 q q c1 c8 m5 m5 w s h Hn.out Hn.out true (by simp))
    have de : ((cu : Int) + (z : Int) == (cu : Int) + (z : Int)) = true := by simp
    go_wp2_with (first
      | (go_at_call 21; (with_reducible refine (KD.out).mono ?_); rintro e w8 ⟨A8, c8, rfl, hb8, hE8⟩; have S8 := hide (S7.out.trans hE8); have M8 := hide (M7.out.ext hE8); have b8 := hide hb8; clear hb8 hE8)
      | (go_at_call 16; (with_reducible refine (KK.out _).mono ?_); rintro e w9 ⟨rfl, hE9⟩; have S9 := hide (S8.out.trans hE9); have ks := hide (KS.out _ q A8 c8 w9 (M8.out.ext hE9) (b8.out.ext hE9)); clear hE9)
      | (go_at_call 22; (with_reducible refine (ks.out).mono ?_); rintro e w10 ⟨rfl, hE10⟩; have S10 := hide (S9.out.trans hE10); clear hE10))
    go_ret
    exact ⟨rfl, S10.out⟩
  · have d0 : ((n : Int) == 0) = false := by rw [beq_eq_false_iff_ne]; omega
    have hn1 : 1 ≤ n := by omega
    have EW := hide S2.out.e
    have HM := hide S2.out.times
    clear S2
    go_upto_region 4 with fail
    clear d0 h0
    have hinc := Hi.out
    have ht := HM.out.1
    have hn := Hn.out
    have hln : m.length ≤ 65536 := by omega
    have hcq := codL_q ht
    have hcl := codL_len m
    have hsz := enN_len hcq (by omega)
    have hV := encV_le hcq
    have hen := enT_of hln hinc
    have hok : (enT m).2 = 0 := by rw [hen]; exact enN_ok (by omega)
    rw [← hen] at hsz
    obtain ⟨f, hf⟩ : ∃ f, m.getD 0 0 = f := ⟨_, rfl⟩
    have HD : Hid (deT (lu ++ (enT m).1 ++ lt) (cu : Int) f (n : Int) = (m, (cu : Int) + ((enT m).1.length : Int), 0)) := by
      have := deT_enc m lu lt ht hinc (by omega) hln
      rw [Hcu.out, hn, hf] at this
      exact this
    have hif : I64 f := by rw [← hf]; exact ht.get 0
    obtain ⟨F, hF⟩ : ∃ F, (enT m).1 = F := ⟨_, rfl⟩
    rw [hF] at HD hsz
    obtain ⟨z, hz⟩ : ∃ z, F.length = z := ⟨_, rfl⟩
    rw [hz] at hsz HD
    have hz2 : z ≤ 1000 := by omega
    have KE : Hid (Calls Try.prog 11 #[.slice Am n cap] w2 fun e w' => ∃ A4 c4, e = .returned (.tuple #[.slice A4 z c4, .int .i64 0]) ∧ BytesAt w' A4 F ∧ Ext w2 w') := hide ((p_encT Am n cap m w2 HM.out hn).mono fun e w' h => by
      obtain ⟨A4, c4, rfl, _, _, _, hb, hE⟩ := h.parts
      rw [hF] at hb
      exact ⟨A4, c4, by rw [hF, hz, hok]; rfl, hb, hE⟩)
    have HF := hide hz
    obtain ⟨bm, om, rfl, hbm, hcm⟩ := HM.out.2.2 (by omega)
    have cm := hcm 0 (by omega)
    rw [hf, Nat.add_zero] at cm
    have Cm := hide cm
    have Hbm := hide hbm
    have ix0 : ∀ w, (Instr.indexAt 22 (.slice (some ⟨bm, om, none⟩) n cap) (.int .i64 0)).run Try.prog w = .ok (.pointer (some ⟨bm, om, none⟩)) w := fun w => idxT bm om n cap 0 (by omega) w
    clear hn hinc ht hcq hcl hen hln hsz hok hF hz hV hf hbm hcm cm
    go_upto_region 5 with (go_at_call 11; (with_reducible refine (KE.out).mono ?_); rintro e w3 ⟨A4, c4, rfl, hb3, hE3⟩; have S3 := hide (EW.out.trans hE3); have M3 := hide (HM.out.ext hE3); have C3 := hide ((hE3.cell (p := ⟨bm, om, none⟩) Hbm.out).trans Cm.out); have B3 := hide (Nat.lt_of_lt_of_le Hbm.out hE3.size); have b3 := hide hb3; clear hb3 hE3)
    have E4 : Hid (Ext w3 (w3.alloc (.cells #[] 5))) := ext_alloc w3 _
    have O4 := hide (own_of (B := w3.heap.size) (w := w3.alloc (.cells #[] 5)) (g := w3.heap.size) (n := 0) (cap := 0) (l := []) (m := []) (Nat.le_refl _) (heap_alloc_new w3 _) rfl rfl (by omega) IsB.nil)
    have hs4 := hide E4.out.size
    have hbu3 := hide (Hu.out.ext S3.out)
    have hbt3 := hide (Ht.out.ext S3.out)
    have hbu4 := hide (hbu3.out.ext E4.out)
    have hle0 : ([] : List Nat).length + lu.length ≤ 140737488355328 := by rw [Hcu.out]; simp; omega
    have hle3 : ([] ++ lu : List Nat).length + F.length ≤ 140737488355328 := by rw [List.nil_append, Hcu.out, HF.out]; omega
    have hle4 : ([] ++ lu ++ F : List Nat).length + lt.length ≤ 140737488355328 := by rw [List.nil_append, List.length_append, Hcu.out, HF.out, Hct.out]; omega
    have H5 : Hid (([] ++ lu ++ F ++ lt).length = cu + z + ct) := by show _ = _; rw [List.nil_append, List.length_append, List.length_append, Hcu.out, HF.out, Hct.out]
    clear KE HM EW Cm Hbm
    go_upto_region 6 with (first
      | (at_builtin; refine wl_append8 rfl (.tmp 26) (.tmp 27) rfl w3.heap.size (.slice (some ⟨w3.heap.size, 0, none⟩) 0 0) [] lu rfl O4.out A2 cu capu rfl hbu4.out Hcu.out hle0 hs4.out ?_; intro v5 w5 hO5 hG5 _; have E5 := hide (below_grown E4.out (Nat.le_refl _) O4.out hG5); have O5 := hide hO5; have hs5 := hide E5.out.size; have b5 := hide (b3.out.ext E5.out); clear hG5 hO5)
      | (at_builtin; refine wl_append8 rfl (.tmp 28) (.tmp 29) rfl w3.heap.size v5 ([] ++ lu) F rfl O5.out A4 z c4 rfl b5.out HF.out hle3 hs5.out ?_; intro v6 w6 hO6 hG6 _; have E6 := hide (below_grown E5.out (Nat.le_refl _) O5.out hG6); have O6 := hide hO6; have hs6 := hide E6.out.size; have b6 := hide (hbt3.out.ext E6.out); clear hG6 hO6)
      | (at_builtin; refine wl_append8 rfl (.tmp 30) (.tmp 31) rfl w3.heap.size v6 ([] ++ lu ++ F) lt rfl O6.out A3 ct capt rfl b6.out Hct.out hle4 hs6.out ?_; intro v7 w7 hO7 hG7 _; have E7 := hide (below_grown E6.out (Nat.le_refl _) O6.out hG7); have O7 := hide hO7; clear hG7 hO7))
    obtain ⟨A7, c7, rfl, hle7, -, hb7⟩ := O7.out.at_
    rw [H5.out] at hle7 ⊢
    have S7 := hide (S3.out.trans E7.out)
    have M7 := hide (M3.out.ext E7.out)
    have c0 : w7.cell? ⟨bm, om, none⟩ = some (.int .i64 f) := (E7.out.cell (p := ⟨bm, om, none⟩) B3.out).trans C3.out
    have i1 : I64 (cu : Int) := ⟨by omega, by omega⟩
    have i2 : I64 (n : Int) := ⟨by omega, by omega⟩
    have KD : Hid (Calls Try.prog 21 #[.slice A7 (cu + z + ct) c7, .int .i64 (cu : Int), .int .i64 f, .int .i64 (n : Int)] w7 fun e w' => ∃ A8 c8, e = .returned (.tuple #[.slice A8 n c8, .int .i64 ((cu : Int) + (z : Int)), .int .i64 0]) ∧ TimesAt w' A8 m ∧ Ext w7 w') := hide ((p_deT A7 (cu + z + ct) c7 ([] ++ lu ++ F ++ lt) (cu : Int) f (n : Int) w7 hb7 H5.out hle7 (by omega) i1 hif i2 (m, (cu : Int) + (z : Int), 0) (by rw [List.nil_append]; exact HD.out)).mono fun e w' h => by
      obtain ⟨A8, c8, rfl, _, _, _, hw, hE⟩ := h.parts
      exact ⟨A8, c8, by simp only [Hn.out], hw, hE⟩)
    clear O4 O5 O6 O7 E4 E5 E6 E7 b3 b5 b6 hb7 hbu3 hbu4 hbt3 hs4 hs5 hs6 hle0 hle3 hle4 HD S3 M3 C3 B3
    have KS : Hid (∀ A1 c1 A8 c8 w, TimesAt w A1 m → TimesAt w A8 m → Calls Try.prog 22 #[.slice A1 n c1, .slice A8 n c8] w (Ret (.bool true) w)) := hide (fun A1 c1 A8 c8 w s h => t_same A1 A8 n n c1 c8 m m w s h Hn.out Hn.out true (by simp))
    have de : ((cu : Int) + (z : Int) == (cu : Int) + (z : Int)) = true := by simp
    go_wp2_with (first
      | (go_at_call 21; (with_reducible refine (KD.out).mono ?_); rintro e w8 ⟨A8, c8, rfl, hb8, hE8⟩; have S8 := hide (S7.out.trans hE8); have M8 := hide (M7.out.ext hE8); have b8 := hide hb8; clear hb8 hE8)
      | (go_at_call 16; (with_reducible refine (KK.out _).mono ?_); rintro e w9 ⟨rfl, hE9⟩; have S9 := hide (S8.out.trans hE9); have ks := hide (KS.out _ cap A8 c8 w9 (M8.out.ext hE9) (b8.out.ext hE9)); clear hE9)
      | (go_at_call 22; (with_reducible refine (ks.out).mono ?_); rintro e w10 ⟨rfl, hE10⟩; have S10 := hide (S9.out.trans hE10); clear hE10))
    go_ret
    exact ⟨rfl, S10.out⟩
end Go.Proofs.Ytjmigglibidbdaa
