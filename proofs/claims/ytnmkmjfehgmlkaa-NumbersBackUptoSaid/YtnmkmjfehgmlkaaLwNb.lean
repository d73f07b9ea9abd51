/- Layer 9: NumbersBack. Conditions: the slices read as bytes; their lengths are small. -/
import Derived.Test.YtnmkmjfehgmlkaaNmL
import Derived.Test.YtnmkmjfehgmlkaaBpk2
namespace Go.Proofs.Ytnmkmjfehgmlkaa
set_option linter.unusedVariables false
set_option linter.unusedSimpArgs false
open Go Go.RowKit
set_option maxRecDepth 100000 in
set_option maxHeartbeats 6400000 in
theorem law_nback (y : Option Addr) (len cap4 : Nat) (A2 : Option Addr) (cu capu : Nat) (lu : List Nat) (A3 : Option Addr) (ct capt : Nat) (lt : List Nat) (W : World) (hL : IsList W y len cap4)
    (hbu : BytesAt W A2 lu) (hcu : lu.length = cu) (hcu2 : cu ≤ 1048576) (hbt : BytesAt W A3 lt) (hct : lt.length = ct) (hct2 : ct ≤ 1048576) :
    Calls Try.prog 5 #[.slice y len cap4, .slice A2 cu capu, .slice A3 ct capt] W (Ret (.bool true) W) := by
  have KN : Hid (Calls Try.prog 9 #[.slice y len cap4] W (NewPost W)) := t_new W y len cap4 hL
  have KL := hide (fun w h => l_list9 W.heap.size W.heap.size w h)
  have KK := hide (fun w => l_known9 w)
  have Hu := hide hbu
  have Ht := hide hbt
  have Hcu := hide hcu
  have Hct := hide hct
  clear hL hbu hcu hbt hct
  go_enter Try.func5, Try.ntmps5
  go_upto_region 2 with (first
    | (go_at_call 9; (with_reducible refine (KN.out).mono ?_); rintro e w1 ⟨rfl, hT, hE⟩; have T1 := hide hT; have E1 := hide hE; have kl := hide (KL.out w1 hT); clear hT hE)
    | (go_at_call 8; (with_reducible refine (kl.out).mono ?_); rintro e w2 ⟨Am, n, cap, m, rfl, hn, hn24, hncap, hO, hT2, hU2⟩; have S2 := hide (Bs.of E1.out T1.out rfl hO hT2 hU2); clear hO hT2 hU2 hncap))
  obtain ⟨B, hB⟩ : ∃ B, w1.heap.size = B := ⟨_, rfl⟩
  rw [hB] at S2
  have hq := S2.out.o.2
  have hln : m.length ≤ 65536 := by omega
  have hsz := enN_len hq hln
  have hok := enN_ok hln
  have hV := encV_le hq
  have HD : Hid (deN (lu ++ (enN m).1 ++ lt) (cu : Int) (n : Int) = (m, (cu : Int) + ((enN m).1.length : Int), 0)) := by
    have := deN_enc m lu lt hq hln
    rw [Hcu.out, hn] at this
    exact this
  obtain ⟨F, hF⟩ : ∃ F, (enN m).1 = F := ⟨_, rfl⟩
  rw [hF] at HD hsz
  obtain ⟨z, hz⟩ : ∃ z, F.length = z := ⟨_, rfl⟩
  rw [hz] at hsz HD
  have hz2 : z ≤ 1000 := by omega
  have KE : Hid (Calls Try.prog 10 #[.slice Am n cap] w2 fun e w' => ∃ A4 c4, e = .returned (.tuple #[.slice A4 z c4, .int .i64 0]) ∧ BytesAt w' A4 F ∧ Ext w2 w') := hide ((p_encN Am n cap m w2 S2.out.words hn).mono fun e w' h => by
    obtain ⟨A4, c4, rfl, _, _, _, hb, hE⟩ := h.parts
    rw [hF] at hb
    exact ⟨A4, c4, by rw [hF, hz, hok]; rfl, hb, hE⟩)
  have HF := hide hz
  have Hn := hide hn
  clear hB KN KL kl T1 E1 hn hq hln hsz hok hF hz hV
  go_upto_region 3 with (go_at_call 10; (with_reducible refine (KE.out).mono ?_); rintro e w3 ⟨A4, c4, rfl, hb3, hE3⟩; have S3 := hide (S2.out.ext hE3); have b3 := hide hb3; clear hb3 hE3)
  have E4 : Hid (Ext w3 (w3.alloc (.cells #[] 5))) := ext_alloc w3 _
  have O4 := hide (own_of (B := w3.heap.size) (w := w3.alloc (.cells #[] 5)) (g := w3.heap.size) (n := 0) (cap := 0) (l := []) (m := []) (Nat.le_refl _) (heap_alloc_new w3 _) rfl rfl (by omega) IsB.nil)
  have hs4 := hide E4.out.size
  have hbu3 := hide (Hu.out.ext S3.out.e)
  have hbt3 := hide (Ht.out.ext S3.out.e)
  have hbu4 := hide (hbu3.out.ext E4.out)
  have hle0 : ([] : List Nat).length + lu.length ≤ 140737488355328 := by rw [Hcu.out]; simp; omega
  have hle3 : ([] ++ lu : List Nat).length + F.length ≤ 140737488355328 := by rw [List.nil_append, Hcu.out, HF.out]; omega
  have hle4 : ([] ++ lu ++ F : List Nat).length + lt.length ≤ 140737488355328 := by rw [List.nil_append, List.length_append, Hcu.out, HF.out, Hct.out]; omega
  have H5 : Hid (([] ++ lu ++ F ++ lt).length = cu + z + ct) := by show _ = _; rw [List.nil_append, List.length_append, List.length_append, Hcu.out, HF.out, Hct.out]
  clear S2 KE
  go_upto_region 4 with (first
    | (at_builtin; refine wl_append8 rfl (.tmp 22) (.tmp 23) rfl w3.heap.size (.slice (some ⟨w3.heap.size, 0, none⟩) 0 0) [] lu rfl O4.out A2 cu capu rfl hbu4.out Hcu.out hle0 hs4.out ?_; intro v5 w5 hO5 hG5 _; have E5 := hide (below_grown E4.out (Nat.le_refl _) O4.out hG5); have O5 := hide hO5; have hs5 := hide E5.out.size; have b5 := hide (b3.out.ext E5.out); clear hG5 hO5)
    | (at_builtin; refine wl_append8 rfl (.tmp 24) (.tmp 25) rfl w3.heap.size v5 ([] ++ lu) F rfl O5.out A4 z c4 rfl b5.out HF.out hle3 hs5.out ?_; intro v6 w6 hO6 hG6 _; have E6 := hide (below_grown E5.out (Nat.le_refl _) O5.out hG6); have O6 := hide hO6; have hs6 := hide E6.out.size; have b6 := hide (hbt3.out.ext E6.out); clear hG6 hO6)
    | (at_builtin; refine wl_append8 rfl (.tmp 26) (.tmp 27) rfl w3.heap.size v6 ([] ++ lu ++ F) lt rfl O6.out A3 ct capt rfl b6.out Hct.out hle4 hs6.out ?_; intro v7 w7 hO7 hG7 _; have E7 := hide (below_grown E6.out (Nat.le_refl _) O6.out hG7); have O7 := hide hO7; clear hG7 hO7))
  obtain ⟨A7, c7, rfl, hle7, -, hb7⟩ := O7.out.at_
  rw [H5.out] at hle7 ⊢
  have S7 := hide (S3.out.ext E7.out)
  have i1 : I64 (cu : Int) := ⟨by omega, by omega⟩
  have i2 : I64 (n : Int) := ⟨by omega, by omega⟩
  have KD : Hid (Calls Try.prog 21 #[.slice A7 (cu + z + ct) c7, .int .i64 (cu : Int), .int .i64 (n : Int)] w7 fun e w' => ∃ A8 c8, e = .returned (.tuple #[.slice A8 n c8, .int .i64 ((cu : Int) + (z : Int)), .int .i64 0]) ∧ WordsAt w' A8 m ∧ Ext w7 w') := hide ((p_deN A7 (cu + z + ct) c7 ([] ++ lu ++ F ++ lt) (cu : Int) (n : Int) w7 hb7 H5.out hle7 (by omega) i1 i2 (m, (cu : Int) + (z : Int), 0) (by rw [List.nil_append]; exact HD.out)).mono fun e w' h => by
    obtain ⟨A8, c8, rfl, _, _, _, hw, hE⟩ := h.parts
    exact ⟨A8, c8, by simp only [Hn.out], hw, hE⟩)
  clear O4 O5 O6 O7 E4 E5 E6 E7 b3 b5 b6 hb7 hbu3 hbu4 hbt3 hs4 hs5 hs6 hle0 hle3 hle4 HD
  have KS : Hid (∀ A8 c8 w, Bs W B Am n cap m w → WordsAt w A8 m → Calls Try.prog 22 #[.slice Am n cap, .slice A8 n c8] w (Ret (.bool true) w)) := hide (fun A8 c8 w s h => q_same Am A8 n n cap c8 m m w s.words h Hn.out Hn.out true (by simp))
  have de : ((cu : Int) + (z : Int) == (cu : Int) + (z : Int)) = true := by simp
  go_wp2_with (first
    | (go_at_call 21; (with_reducible refine (KD.out).mono ?_); rintro e w8 ⟨A8, c8, rfl, hb8, hE8⟩; have S8 := hide (S7.out.ext hE8); have b8 := hide hb8; clear hb8 hE8)
    | (go_at_call 13; (with_reducible refine (KK.out _).mono ?_); rintro e w9 ⟨rfl, hE9⟩; have S9 := hide (S8.out.ext hE9); have ks := hide (KS.out A8 c8 w9 S9.out (b8.out.ext hE9)); clear hE9)
    | (go_at_call 22; (with_reducible refine (ks.out).mono ?_); rintro e w10 ⟨rfl, hE10⟩; have S10 := hide (S9.out.ext hE10); clear hE10))
  go_ret
  exact ⟨rfl, S10.out.e⟩
end Go.Proofs.Ytnmkmjfehgmlkaa
