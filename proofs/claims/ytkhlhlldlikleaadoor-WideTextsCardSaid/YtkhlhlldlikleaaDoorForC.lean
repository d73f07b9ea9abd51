/- Text of an integer, walked: for every Wide. Conditions: the table of the powers of ten lies in the world. -/
import Derived.Test.YtkhlhlldlikleaaDoorForB
import Derived.Test.YtkhlhlldlikleaaDoorTapeC
namespace Go.Proofs.YtkhlhlldlikleaaDoor
set_option linter.unusedVariables false
set_option linter.unusedSimpArgs false
open Go Go.RowKit Go.Sort Go.Lib
def TextRet (z : Int) (w : World) (e : Ending) (w' : World) : Prop := e = .returned (.string ⟨(Lib.itoa z).toArray⟩) ∧ Ext w w'
theorem text_end {z : Int} {n : Nat} (hn : z.natAbs = n) : Lib.itoa z = if z < 0 then 45 :: decDigits n else decDigits n := by
  unfold Lib.itoa
  split
  · rw [hn]
  · rw [show z.toNat = n by omega]
theorem text_bytes (D : List UInt8) (T : ByteArray) : Ending.returned (.string (ByteArray.mk #[45] ++ (ByteArray.mk D.toArray ++ T))) = .returned (.string ⟨(45 :: (D ++ T.data.toList)).toArray⟩) := by
  congr 2
theorem text_bytes' (D : List UInt8) (T : ByteArray) : Ending.returned (.string (ByteArray.mk D.toArray ++ T)) = .returned (.string ⟨(D ++ T.data.toList).toArray⟩) := by
  congr 2
set_option maxRecDepth 100000 in
set_option maxHeartbeats 4000000 in
theorem p_text (s : Bool) (a b c d : Nat) (z : Int) (w : World) (h : IsW s a b c d z) (hT : Tab w) :
    Calls Tryd.prog 25 #[.agg #[.bool s, .int .u64 (a : Int), .int .u64 (b : Int), .int .u64 (c : Int), .int .u64 (d : Int)]] w (TextRet z w) := by
  obtain ⟨n, hn⟩ : ∃ n, z.natAbs = n := ⟨_, rfl⟩
  have MX : Hid (mag4 a b c d = n) := by rw [← hn]; exact h.abs
  have HE := hide (text_end hn)
  have wx := h.w64
  have H0 : (w.alloc (.cells #[.bool s, .int .u64 (a : Int), .int .u64 (b : Int), .int .u64 (c : Int), .int .u64 (d : Int)] 25)).heap[w.heap.size]? = some (.cells #[.bool s, .int .u64 (a : Int), .int .u64 (b : Int), .int .u64 (c : Int), .int .u64 (d : Int)] 25 (0, 0)) := Array.getElem?_push_size
  obtain ⟨W, hW⟩ : ∃ W, W = w.alloc (.cells #[.bool s, .int .u64 (a : Int), .int .u64 (b : Int), .int .u64 (c : Int), .int .u64 (d : Int)] 25) := ⟨_, rfl⟩
  have E0 : Ext w W := by rw [hW]; exact ext_alloc _ _
  rw [← hW] at H0
  have B0 : Box W w.heap.size s a b c d := H0
  obtain ⟨c0, c1, c2, c3, c4, f0, f1, f2, f3, f4⟩ := five_cells B0
  have HW := hide hW
  have HN := hide hn
  clear hW H0 hn
  go_enter Tryd.func25, Tryd.ntmps25
  go_upto_region 1 with fail
  rw [← HW.out]
  clear HW
  go_wp2_with (go_at_call 51; refine (p_dw19 a b c d n MX.out _ wx).mono ?_; rintro e' w1 ⟨a1, b1, c1', d1, r, rfl, w4, hq, hr, hE⟩; have R0 := B0.ext hE; have E1 := E0.trans hE; have HQ := hide hq; have HR := hide hr; clear hE hq hr)
  have D0 : Hid (decDigits n = decDigits (mag4 a1 b1 c1' d1 * 10000000000000000000 + r) ++ (ByteArray.mk #[]).data.toList) := by
    unfold Hid
    rw [HQ.out, HR.out, Nat.mul_comm, Nat.div_add_mod]
    simp
  have A1 := arr_new w1 59 [a1, b1, c1', d1] #[.int .u64 (a1 : Int), .int .u64 (b1 : Int), .int .u64 (c1' : Int), .int .u64 (d1 : Int)] rfl
  have R1 := R0.ext (ext_alloc w1 (.cells #[.int .u64 (a1 : Int), .int .u64 (b1 : Int), .int .u64 (c1' : Int), .int .u64 (d1 : Int)] 59))
  have E2 := E1.trans (ext_alloc w1 (.cells #[.int .u64 (a1 : Int), .int .u64 (b1 : Int), .int .u64 (c1' : Int), .int .u64 (d1 : Int)] 59))
  have hg := R0.lt
  have hr1 : r < 10000000000000000000 := by rw [HR.out]; omega
  generalize w1.alloc (.cells #[.int .u64 (a1 : Int), .int .u64 (b1 : Int), .int .u64 (c1' : Int), .int .u64 (d1 : Int)] 59) = W2 at *
  generalize w1.heap.size = g at *
  clear E1 R0 E0 B0 HQ HR c0 c1 c2 c3 c4 f0 f1 f2 f3 f4
  go_loopw [3, 5] (fun t i wr => ∃ (T : ByteArray) (p a1 b1 c1 d1 : Nat), t = .string T ∧ i = .int .u64 (p : Int) ∧ p < 10000000000000000000 ∧ W64 [a1, b1, c1, d1] ∧ Hid (decDigits n = decDigits (mag4 a1 b1 c1 d1 * 10000000000000000000 + p) ++ T.data.toList) ∧ Arr wr g 59 [a1, b1, c1, d1] ∧ Box wr w.heap.size s a b c d ∧ Ext w wr) (fun t _ _ => nDigits n - strLen t)
  case atStart => exact ⟨_, r, a1, b1, c1', d1, rfl, rfl, hr1, w4, D0, A1, R1, E2⟩
  case round =>
    clear D0 A1 R1 E2 hr1 w4
    obtain ⟨T, p, a2, b2, c2, d2, rfl, rfl, hp, w4, HD, A1, R1, E1⟩ := hrel
    obtain ⟨m0, m1, m2, m3, k0, k1, k2, k3⟩ := A1.four
    obtain ⟨c0, c1, c2', c3, c4, f0, f1, f2, f3, f4⟩ := five_cells R1
    have hp64 : p < 18446744073709551616 := by omega
    have hTs : nDigits (mag4 a2 b2 c2 d2 * 10000000000000000000 + p) + T.size = nDigits n := by
      have := congrArg List.length HD.out
      rw [List.length_append, decDigits_length, decDigits_length] at this
      exact this.symm
    have hn78 : nDigits n ≤ 78 := nd_le n 78 (by omega) (by have := mag_lt h.1 h.2.1 h.2.2.1 h.2.2.2.1; rw [MX.out] at this; exact Nat.lt_of_lt_of_le this (by decide))
    have hpn := nDigits_pos (mag4 a2 b2 c2 d2 * 10000000000000000000 + p)
    have hln := decDigits_length p
    have hn20 : nDigits p ≤ 20 := nd_le p 20 (by omega) (by omega)
    by_cases hz : mag4 a2 b2 c2 d2 = 0
    · have hq := neq0 59 Tryd.underlying59 a2 b2 c2 d2 false (by rw [decide_eq_false_iff_not]; omega)
      have HD1 : Hid (decDigits n = decDigits p ++ T.data.toList) := by have := HD.out; rw [hz, Nat.zero_mul, Nat.zero_add] at this; exact this
      have hlt1 : ¬ 9223372036854775807 < (decDigits p).length + T.size := by omega
      have hlt2 : ¬ 9223372036854775807 < 1 + ((decDigits p).length + T.size) := by omega
      clear HN
      by_cases hs : z < 0
      · go_wp2_with (first
          | (go_at_call 52; refine (p_fmt p _ hp64 (hT.ext E1)).mono ?_; rintro e' w2 ⟨rfl, hG⟩; have hE := ext_fmt hG; have R1 := R1.ext hE; have A1 := A1.ext hE; have E1 := E1.trans hE; clear hG hE; obtain ⟨m0, m1, m2, m3, k0, k1, k2, k3⟩ := A1.four; obtain ⟨c0, c1, c2', c3, c4, f0, f1, f2, f3, f4⟩ := five_cells R1)
          | (go_at_call 22; refine (p_sign s a b c d z _ h).mono ?_; rintro e' w3 ⟨rfl, hE⟩; have E1 := E1.trans hE; clear hE))
        go_ret
        refine ⟨?_, E1⟩
        rw [HE.out, if_pos hs, HD1.out]
        exact Eq.trans (b := Ending.returned (.string (ByteArray.mk #[45] ++ (ByteArray.mk (decDigits p).toArray ++ T)))) rfl (text_bytes _ _)
      · go_wp2_with (first
          | (go_at_call 52; refine (p_fmt p _ hp64 (hT.ext E1)).mono ?_; rintro e' w2 ⟨rfl, hG⟩; have hE := ext_fmt hG; have R1 := R1.ext hE; have A1 := A1.ext hE; have E1 := E1.trans hE; clear hG hE; obtain ⟨m0, m1, m2, m3, k0, k1, k2, k3⟩ := A1.four; obtain ⟨c0, c1, c2', c3, c4, f0, f1, f2, f3, f4⟩ := five_cells R1)
          | (go_at_call 22; refine (p_sign s a b c d z _ h).mono ?_; rintro e' w3 ⟨rfl, hE⟩; have E1 := E1.trans hE; clear hE))
        go_ret
        refine ⟨?_, E1⟩
        rw [HE.out, if_neg (show ¬ z < 0 by omega), HD1.out]
        exact Eq.trans (b := Ending.returned (.string (ByteArray.mk (decDigits p).toArray ++ T))) rfl (text_bytes' _ _)
    · have hq := neq0 59 Tryd.underlying59 a2 b2 c2 d2 true (by rw [decide_eq_true_iff]; exact hz)
      obtain ⟨L, hL⟩ : ∃ L, Lib.repeatL [48] (19 - nDigits p) = L := ⟨_, rfl⟩
      obtain ⟨M, hM⟩ : ∃ M, mag4 a2 b2 c2 d2 = M := ⟨_, rfl⟩
      rw [hM] at HD hz
      have HP := hide (dec_part M p (by omega) hp)
      rw [hL] at HP
      have hn19 : nDigits p ≤ 19 := nd_le p 19 (by omega) (by simpa using hp)
      have hLl : L.length = 19 - nDigits p := by rw [← hL, rep48, List.length_replicate]
      have hRep : ∀ w, Calls Tryd.prog 53 #[.string ⟨#[48]⟩, .int .i64 ((19 - nDigits p : Nat) : Int)] w (fun e w' => e = .returned (.string ⟨L.toArray⟩) ∧ Ext w w') := by
        intro w
        rw [← hL]
        exact Tryd.strings_Repeat ⟨#[48]⟩ (19 - nDigits p) w (by omega) (by show 1 * _ ≤ _; omega)
      have hlen := decDigits_length p
      have hw : IntKind.i64.wrap (19 - ((decDigits p).length : Int)) = ((19 - nDigits p : Nat) : Int) := by rw [IntKind.wrap_i64, hlen]; omega
      have hlt1 : ¬ 9223372036854775807 < L.length + (decDigits p).length := by omega
      have hlt2 : ¬ 9223372036854775807 < L.length + (decDigits p).length + T.size := by omega
      have HM := hide hM
      have HTN : Hid (T.size < nDigits n) := by rw [hM] at hTs hpn; unfold Hid; omega
      have HN1 := hide (nDigits_pos p)
      have HLL := hide hLl
      have HLN := hide hlen
      clear HN hL hM hlen hLl hTs hln hn20 hn78 hpn hn19
      go_wp2_with (first
          | (go_at_call 52; refine (p_fmt p _ hp64 (hT.ext E1)).mono ?_; rintro e' w2 ⟨rfl, hG⟩; have hE := ext_fmt hG; have R1 := R1.ext hE; have A1 := A1.ext hE; have E1 := E1.trans hE; clear hG hE; obtain ⟨m0, m1, m2, m3, k0, k1, k2, k3⟩ := A1.four; obtain ⟨c0, c1, c2', c3, c4, f0, f1, f2, f3, f4⟩ := five_cells R1)
          | (go_at_call 53; refine (hRep _).mono ?_; rintro e' w3 ⟨rfl, hE⟩; have R1 := R1.ext hE; have A1 := A1.ext hE; have E1 := E1.trans hE; clear hE; obtain ⟨m0, m1, m2, m3, k0, k1, k2, k3⟩ := A1.four; obtain ⟨c0, c1, c2', c3, c4, f0, f1, f2, f3, f4⟩ := five_cells R1))
      go_at_call 51
      refine (p_dw19 a2 b2 c2 d2 M HM.out _ w4).mono ?_
      rintro e' w5 ⟨a5, b5, c5, d5, r5, rfl, w5', hq5, hr5, hE⟩
      have R1 := R1.ext hE
      have A1 := A1.ext hE
      have E1 := E1.trans hE
      have HQ := hide hq5
      have HR := hide hr5
      clear hE hq5 hr5
      obtain ⟨m0, m1, m2, m3, k0, k1, k2, k3⟩ := A1.four
      obtain ⟨c0, c1, c2', c3, c4, f0, f1, f2, f3, f4⟩ := five_cells R1
      go_wp2_with fail
      have e19 : M / 10000000000000000000 * 10000000000000000000 + M % 10000000000000000000 = M := by rw [Nat.mul_comm]; exact Nat.div_add_mod _ _
      have HF : Hid (decDigits n = decDigits (mag4 a5 b5 c5 d5 * 10000000000000000000 + r5) ++ (ByteArray.mk L.toArray ++ ByteArray.mk (decDigits p).toArray ++ T).data.toList) := by
        unfold Hid
        rw [HD.out, HP.out, HQ.out, HR.out, e19]
        simp [ByteArray.data_append]
      have HMs : Hid (nDigits n - strLen (.string (ByteArray.mk L.toArray ++ ByteArray.mk (decDigits p).toArray ++ T)) < nDigits n - strLen (.string T)) := by
        have s1 : (ByteArray.mk L.toArray).size = L.length := by simp [ByteArray.size]
        have s2 : (ByteArray.mk (decDigits p).toArray).size = (decDigits p).length := by simp [ByteArray.size]
        have h1 := HTN.out
        have h2 := HLL.out
        have h3 := HLN.out
        have h4 := HN1.out
        unfold Hid
        simp only [strLen, ByteArray.size_append, s1, s2]
        omega
      have hr5b : r5 < 10000000000000000000 := by rw [HR.out]; omega
      have gne : w.heap.size ≠ g := by omega
      have A5 := hide ((((A1.set 0 a5).set 1 b5).set 2 c5).set 3 d5)
      have R5 := hide ((((R1.other gne (j := 0) (.int .u64 (a5 : Int))).other gne (j := 1) (.int .u64 (b5 : Int))).other gne (j := 2) (.int .u64 (c5 : Int))).other gne (j := 3) (.int .u64 (d5 : Int)))
      have E5 := hide (ext_four E1 (b := g) (by omega) (.int .u64 (a5 : Int)) (.int .u64 (b5 : Int)) (.int .u64 (c5 : Int)) (.int .u64 (d5 : Int)))
      clear HP HD HTN HLL HLN HN1 HQ HR e19 hlt1 hlt2 hw HE MX hRep
      go_wp2_with fail
      exact ⟨⟨_, r5, a5, b5, c5, d5, rfl, rfl, hr5b, w5', HF, A5.out, R5.out, E5.out⟩, HMs.out⟩
end Go.Proofs.YtkhlhlldlikleaaDoor
