/- Text of the reference of layer 2. Conditions: the cells stand for a number. -/
import Derived.Test.YtkhlhlldlikleaaDoorMulX
import Derived.Test.YtkhlhlldlikleaaDoorForC
import Derived.Laws.IdiomStrings
namespace Go.Proofs.YtkhlhlldlikleaaDoor
set_option linter.unusedVariables false
set_option linter.unusedSimpArgs false
open Go Go.RowKit Go.Sort Go.Lib
theorem abs_of' {s : Bool} {a b c d : Nat} {x : Int} (h : IsC s a b c d x) : mag4 a b c d = x.natAbs ∧ x = if s then -(x.natAbs : Int) else (x.natAbs : Int) := by
  obtain ⟨⟨h1, h2, h3, h4, h5⟩, _⟩ := h
  have e : mag4 a b c d = x.natAbs := by cases s <;> simp at h5 <;> omega
  exact ⟨e, by rw [← e]; exact h5⟩
theorem isW_abs {s : Bool} {a b c d : Nat} {x : Int} (h : IsW s a b c d x) : x.natAbs < 115792089237316195423570985008687907853269984665640564039457584007913129639936 := by
  obtain ⟨h1, h2, h3, h4, h5⟩ := h
  have := mag_lt h1 h2 h3 h4
  cases s <;> simp at h5 <;> omega
theorem byte_run (w : World) (u : UInt8) (v : Int) (h : v = (u.toNat : Int)) : (convert 76 9 (.slice (some ⟨w.heap.size, 0, none⟩) 1 1)).run Tryd.prog (w.alloc (.cells #[.int .u8 v] 5)) = .ok (.string ⟨#[u]⟩) (w.alloc (.cells #[.int .u8 v] 5)) := by
  refine run_convert_bytes_back (P := Tryd.prog) (w.alloc (.cells #[.int .u8 v] 5)) 76 9 5 ⟨w.heap.size, 0, none⟩ 1 [u] Tryd.underlying76 Tryd.underlying5 Tryd.underlying9 ?_
  intro j hj
  have : j = 0 := by simpa using hj
  subst this
  rw [h]
  have hb := heap_alloc_new w (.cells #[Value.int .u8 (u.toNat : Int)] 5)
  show World.cell? _ ⟨w.heap.size, 0, none⟩ = _
  rw [cell_of_block hb]
  rfl
theorem dec_step (M d : Nat) (hM : M ≠ 0) (hd : M % 10 = d) : decDigits M = (if M / 10 = 0 then [] else decDigits (M / 10)) ++ [UInt8.ofNat (48 + d)] := by
  rw [← hd]
  by_cases h : M < 10
  · rw [decDigits_one h, if_pos (by omega), Nat.mod_eq_of_lt h]; rfl
  · rw [decDigits, dif_neg h, if_neg (by omega)]
theorem byte_nat (d : Nat) (h : d < 10) : (48 + (d : Int)) = ((UInt8.ofNat (48 + d)).toNat : Int) := by
  rw [UInt8.toNat_ofNat']
  omega
theorem ten_words (B : Nat) (w : World) (g : Nat) (hg : g = w.heap.size) (hB : B ≤ w.heap.size) : Words B (w.alloc (.cells #[.int .u64 10] 22)) (.slice (some ⟨g, 0, none⟩) 1 1) [10] := words_one B w 10 g hg hB (by omega)
set_option maxRecDepth 100000 in
set_option maxHeartbeats 4000000 in
theorem ref_text (s : Bool) (a b c d : Nat) (z : Int) (w : World) (h : IsW s a b c d z) :
    Calls Tryd.prog 26 #[.agg #[.bool s, .int .u64 (a : Int), .int .u64 (b : Int), .int .u64 (c : Int), .int .u64 (d : Int)]] w (TextRet z w) := by
  obtain ⟨n, hn⟩ : ∃ n, z.natAbs = n := ⟨_, rfl⟩
  have HE := hide (text_end hn)
  have hw := isW_abs h
  rw [hn] at hw
  have H0 : (w.alloc (.cells #[.bool s, .int .u64 (a : Int), .int .u64 (b : Int), .int .u64 (c : Int), .int .u64 (d : Int)] 25)).heap[w.heap.size]? = some (.cells #[.bool s, .int .u64 (a : Int), .int .u64 (b : Int), .int .u64 (c : Int), .int .u64 (d : Int)] 25 (0, 0)) := Array.getElem?_push_size
  obtain ⟨W, hW⟩ : ∃ W, W = w.alloc (.cells #[.bool s, .int .u64 (a : Int), .int .u64 (b : Int), .int .u64 (c : Int), .int .u64 (d : Int)] 25) := ⟨_, rfl⟩
  have E0 : Ext w W := by rw [hW]; exact ext_alloc _ _
  rw [← hW] at H0
  have B0 : Box W w.heap.size s a b c d := H0
  have HW := hide hW
  have HH := hide h
  clear hW H0 h
  obtain ⟨c0, c1, c2, c3, c4, _⟩ := five_cells B0
  go_enter Tryd.func26, Tryd.ntmps26
  go_upto_region 1 with fail
  rw [← HW.out]
  clear HW
  go_upto_region 2 with (go_at_call 54; refine (ref_clean _ _ _ _ _ _ _ HH.out).mono ?_; rintro e w1 ⟨s, a, b, c, d, rfl, hC, hE⟩; have B1 := B0.ext hE; have E1 := E0.trans hE; obtain ⟨c0, c1, c2, c3, c4, f0, f1, f2, f3, f4⟩ := five_cells B1; clear hE)
  have P1 := B1.put (t := s) (a' := a) (b' := b) (c' := c) (d' := d)
  have EE := ext_five E1 (b := w.heap.size) (Nat.le_refl _) (.bool s) (.int .u64 (a : Int)) (.int .u64 (b : Int)) (.int .u64 (c : Int)) (.int .u64 (d : Int))
  generalize ((((w1.setCell ⟨w.heap.size, 0, none⟩ (.bool s)).setCell ⟨w.heap.size, 1, none⟩ (.int .u64 (a : Int))).setCell ⟨w.heap.size, 2, none⟩ (.int .u64 (b : Int))).setCell ⟨w.heap.size, 3, none⟩ (.int .u64 (c : Int))).setCell ⟨w.heap.size, 4, none⟩ (.int .u64 (d : Int)) = W1 at *
  clear B0 B1 E0 E1 HH
  obtain ⟨mx, sx⟩ := abs_of' hC
  rw [hn] at mx sx
  have hneg : (s = true ↔ z < 0) := by
    obtain ⟨_, h2⟩ := hC
    cases s
    · simp at sx ⊢; omega
    · have := h2 rfl
      simp at sx ⊢; omega
  obtain ⟨ha, hb, hc, hd, hzz⟩ := hC.1
  clear hzz
  have MX := hide mx
  have HN := hide hneg
  have HNN := hide hn
  clear hC mx sx hneg hn
  obtain ⟨c0, c1, c2, c3, c4, _⟩ := five_cells P1
  obtain ⟨L, hL⟩ : ∃ L, (limbs n).length = L := ⟨_, rfl⟩
  have HL := hide hL
  have hLp := len_pos n
  rw [hL] at hLp
  have hL4 : L ≤ 4 := by rw [← hL]; exact limbs_len_le.2 hw
  clear hL
  go_upto_region 3 with (go_at_call 55; refine (of_any w.heap.size s a b c d _ EE.size ha hb hc hd).mono ?_; rintro e w2 ⟨v, rfl, hv, hE⟩; rw [MX.out] at hv; obtain ⟨a3, c3', rfl, h3a, h3b, _⟩ := hv.shape L HL.out; have P1 := P1.ext hE; have EE := EE.trans hE; clear hE)
  by_cases h0 : n = 0
  · have hL0 : L = 0 := by omega
    subst hL0
    have HD : Hid (Lib.itoa z = [48]) := by
      have h1 := HNN.out
      rw [h0] at h1
      have : z = 0 := by omega
      subst this
      have h2 : Lib.itoa 0 = decDigits 0 := by simp [Lib.itoa]
      unfold Hid
      rw [h2, decDigits_one (by omega)]
      rfl
    clear h0 hLp hv
    go_wp2_with fail
    go_ret
    exact ⟨by rw [HD.out]; rfl, EE⟩
  · have hLn : (0 : Int) < (L : Int) := by omega
    have hL0 : ((L : Int) == 0) = false := by rw [beq_eq_false_iff_ne]; omega
    have H00 := hide h0
    clear hLp h0
    go_upto_region 6 with fail
    have hn78 : Hid (nDigits n ≤ 78) := nd_le n 78 (by omega) (Nat.lt_of_lt_of_le hw (by decide))
    go_loopw [3, 4] (fun m t wr => ∃ (M : Nat) (T : ByteArray), t = .string T ∧ M ≤ n ∧ Words w.heap.size wr m (limbs M) ∧ Hid (decDigits n = (if M = 0 then [] else decDigits M) ++ T.data.toList) ∧ Box wr w.heap.size s a b c d ∧ Ext w wr) (fun _ t _ => nDigits n - strLen t)
    case atStart => exact ⟨n, _, rfl, Nat.le_refl _, hv, by unfold Hid; rw [if_neg H00.out]; simp, P1, EE⟩
    case round =>
      clear hv P1 EE
      obtain ⟨M, T, rfl, hMn, hv, HD, P1, EE⟩ := hrel
      obtain ⟨c0, c1, c2, c3, c4, _⟩ := five_cells P1
      by_cases hM : M = 0
      · subst hM
        have HD2 : Hid (decDigits n = T.data.toList) := by unfold Hid; simpa using HD.out
        obtain ⟨a5, c5, rfl, h5a, h5b, _⟩ := hv.shape 0 (by simp [limbs_zero])
        have hT78 : ¬ 9223372036854775807 < 1 + T.size := by
          have h1 := congrArg List.length HD2.out
          rw [decDigits_length] at h1
          have h2 := hn78.out
          have h3 : T.size = T.data.toList.length := by rw [Array.length_toList]; rfl
          omega
        cases s
        · have hz0 := hide (show ¬ z < 0 from fun e => by have := HN.out.2 e; simp at this)
          clear hv HD
          go_wp2_with fail
          go_ret
          refine ⟨?_, EE⟩
          rw [HE.out, if_neg (show ¬ z < 0 by have := hz0.out; omega), HD2.out]
          rfl
        · have hz0 : z < 0 := HN.out.1 rfl
          clear hv HD
          go_wp2_with fail
          go_ret
          refine ⟨?_, EE⟩
          rw [HE.out, if_pos hz0, HD2.out]
          rfl
      · have hlen : (limbs M).length ≤ 4 := limbs_len_le.2 (Nat.lt_of_le_of_lt hMn hw)
        obtain ⟨L5, hL5⟩ : ∃ L5, (limbs M).length = L5 := ⟨_, rfl⟩
        obtain ⟨a5, c5, rfl, h5a, h5b, _⟩ := hv.shape L5 hL5
        have hLp := len_pos M
        rw [hL5] at hLp hlen
        have hL50 : (0 : Int) < (L5 : Int) := by omega
        have HT := hide (ten_words wr.heap.size wr wr.heap.size rfl (Nat.le_refl _))
        have hE0 := hide (ext_alloc wr (.cells #[.int .u64 10] 22))
        have HL5 := hide hL5
        have HM := hide hM
        have P1' := P1.ext hE0.out
        have l1 := P1.lt
        clear hLp hL5 hM
        go_upto_region 8 with (go_at_call 56; refine (ref_div1 w.heap.size _ _ _ _ M 10 _ (hv.ext hE0.out) HT.out (Nat.le_trans (Nat.le_of_lt l1) hE0.out.size) (by rw [HL5.out]; omega) (by omega)).mono ?_; rintro e w5 ⟨vq, vr, rfl, hvq, hvr, hE⟩; have P1 := P1'.ext hE; have EE := (EE.trans hE0.out).trans hE; clear hE)
        obtain ⟨L6, hL6⟩ : ∃ L, (limbs (M % 10)).length = L := ⟨_, rfl⟩
        obtain ⟨a6, c6, rfl, h6a, h6b, hc6⟩ := hvr.shape L6 hL6
        obtain ⟨dg, hdg⟩ : ∃ dg, M % 10 = dg := ⟨_, rfl⟩
        have hd10 : dg < 10 := by omega
        have HDG := hide hdg
        obtain ⟨u8, hu8⟩ : ∃ u : UInt8, UInt8.ofNat (48 + dg) = u := ⟨_, rfl⟩
        have HB := hide (byte_nat dg hd10)
        have hT78 : ¬ 9223372036854775807 < 1 + T.size ∧ T.size < nDigits n := by
          have h1 := congrArg List.length HD.out
          rw [if_neg HM.out, List.length_append, decDigits_length, decDigits_length] at h1
          have h2 := hn78.out
          have h3 : T.size = T.data.toList.length := by rw [Array.length_toList]; rfl
          have h4 := nDigits_pos M
          omega
        obtain ⟨hT1, hT2⟩ := hT78
        have HF : Hid (decDigits n = (if M / 10 = 0 then [] else decDigits (M / 10)) ++ (ByteArray.mk #[u8] ++ T).data.toList) := by
          have h1 := HD.out
          rw [if_neg HM.out, dec_step M dg HM.out HDG.out, hu8] at h1
          unfold Hid
          rw [h1, ByteArray.data_append]
          simp
        have HMs : Hid (nDigits n - strLen (.string (ByteArray.mk #[u8] ++ T)) < nDigits n - strLen (.string T)) := by
          have s1 : (ByteArray.mk #[u8]).size = 1 := rfl
          unfold Hid
          simp only [strLen, ByteArray.size_append, s1]
          omega
        have hMq : M / 10 ≤ n := Nat.le_trans (Nat.div_le_self _ _) hMn
        have HT2 := hide hT2
        rw [hu8] at HB
        clear hT2
        by_cases hd0 : dg = 0
        · have hL60 : L6 = 0 := by rw [← hL6, hdg, hd0, limbs_zero]; rfl
          subst hL60
          have hB48 : (48 : Int) = (u8.toNat : Int) := by have := HB.out; rw [hd0] at this; simpa using this
          have hcv := byte_run w5 u8 48 hB48
          have hs1 : (ByteArray.mk #[u8]).size = 1 := rfl
          have HD0 := hide hd0
          have hE9 := ext_alloc w5 (.cells #[.int .u8 48] 5)
          have hq9 := hvq.ext hE9
          have P9 := P1.ext hE9
          have E9 := hide (EE.trans hE9)
          clear hc6 hL6 hdg hvr hd0 hB48 hvq HD hu8 hE9
          go_wp2_with fail
          exact ⟨⟨M / 10, _, rfl, hMq, hq9, HF, P9, E9.out⟩, HMs.out⟩
        · have hL60 : L6 = 1 := by rw [← hL6, hdg, limbs_one dg (by omega) (by omega)]; rfl
          subst hL60
          have hB48 : 48 + (dg : Int) = (u8.toNat : Int) := HB.out
          obtain ⟨g6, ea, _, _, cg6⟩ := hc6 0 (by rw [hL6]; omega)
          have e6 : (limbs (M % 10))[0]'(by rw [hL6]; omega) = dg := by simp only [hdg, limbs_one dg (by omega) (by omega)]; rfl
          rw [e6] at cg6
          subst ea
          have hcv := byte_run w5 u8 (48 + (dg : Int)) hB48
          have hw1 : IntKind.u64.wrap (48 + (dg : Int)) = 48 + (dg : Int) := by rw [wrap_u64']; omega
          have hw2 : IntKind.u8.wrap (48 + (dg : Int)) = 48 + (dg : Int) := by simp [IntKind.wrap, IntKind.bits, IntKind.signed]; omega
          have hs1 : (ByteArray.mk #[u8]).size = 1 := rfl
          have hE9 := ext_alloc w5 (.cells #[.int .u8 (48 + (dg : Int))] 5)
          have hq9 := hvq.ext hE9
          have P9 := P1.ext hE9
          have E9 := hide (EE.trans hE9)
          clear hc6 hL6 hdg hvr hd0 hB48 hvq HD hu8 hE9 e6
          go_wp2_with fail
          exact ⟨⟨M / 10, _, rfl, hMq, hq9, HF, P9, E9.out⟩, HMs.out⟩
end Go.Proofs.YtkhlhlldlikleaaDoor
