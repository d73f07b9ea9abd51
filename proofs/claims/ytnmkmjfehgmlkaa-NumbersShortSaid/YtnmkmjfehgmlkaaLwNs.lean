/- Layer 9: NumbersShort. Conditions: the slice reads as numbers of the tape. -/
import Derived.Test.YtnmkmjfehgmlkaaNmL
import Derived.Test.YtnmkmjfehgmlkaaBpk2
namespace Go.Proofs.Ytnmkmjfehgmlkaa
set_option linter.unusedVariables false
set_option linter.unusedSimpArgs false
open Go Go.RowKit
set_option maxRecDepth 100000 in
set_option maxHeartbeats 3200000 in
theorem law_nshort (y : Option Addr) (len cap4 : Nat) (W : World) (hL : IsList W y len cap4) :
    Calls Try.prog 7 #[.slice y len cap4] W (Ret (.bool true) W) := by
  have KN : Hid (Calls Try.prog 9 #[.slice y len cap4] W (NewPost W)) := t_new W y len cap4 hL
  have KL := hide (fun w h => l_list9 W.heap.size W.heap.size w h)
  have KK := hide (fun w => l_known9 w)
  have KS : Hid (∀ (v : Nat) (w : World), v < 18446744073709551616 → Calls Try.prog 23 #[.int .u64 (v : Int)] w (Ret (.int .i64 ((encB v).length : Int)) w)) := hide (fun v w h => v_size v w h)
  clear hL
  go_enter Try.func7, Try.ntmps7
  go_upto_region 2 with (first
    | (go_at_call 9; (with_reducible refine (KN.out).mono ?_); rintro e w1 ⟨rfl, hT, hE⟩; have T1 := hide hT; have E1 := hide hE; have kl := hide (KL.out w1 hT); clear hT hE)
    | (go_at_call 8; (with_reducible refine (kl.out).mono ?_); rintro e w2 ⟨A, n, cap, m, rfl, hn, hn24, hncap, hO, hT2, hU2⟩; have S2 := hide (Bs.of E1.out T1.out rfl hO hT2 hU2); clear hO hT2 hU2 hncap))
  obtain ⟨B, hB⟩ : ∃ B, w1.heap.size = B := ⟨_, rfl⟩
  rw [hB] at S2
  have hq := S2.out.o.2
  have hln : m.length ≤ 65536 := by omega
  have hw64 := wdt_le hq
  have hsz := enN_len hq hln
  have hok := enN_ok hln
  obtain ⟨u, hu⟩ : ∃ u, wdt m = u := ⟨_, rfl⟩
  obtain ⟨S, hS⟩ : ∃ S, pkS m = S := ⟨_, rfl⟩
  obtain ⟨z, hz⟩ : ∃ z, (enN m).1.length = z := ⟨_, rfl⟩
  obtain ⟨t, ht⟩ : ∃ t, 1 + (encV m).length = t := ⟨_, rfl⟩
  rw [hu] at hw64
  rw [hS, hz, ht] at hsz
  have hpS : (n * u + 7) / 8 = S := by rw [← hS, pkS, hn, hu]
  have KE : Hid (Calls Try.prog 10 #[.slice A n cap] w2 fun e w' => ∃ A3 c3, e = .returned (.tuple #[.slice A3 z c3, .int .i64 0]) ∧ Ext w2 w') := hide ((p_encN A n cap m w2 S2.out.words hn).mono fun e w' h => by
    obtain ⟨A3, c3, rfl, _, _, _, _, hE⟩ := h.parts
    exact ⟨A3, c3, by rw [hz, hok]; rfl, hE⟩)
  have KW : Hid (∀ w, Bs W B A n cap m w → Calls Try.prog 15 #[.slice A n cap] w (Ret (.int .i64 (u : Int)) w)) := hide (fun w s => by have := r_wd A n cap m w s.words hn; rw [hu] at this; exact this)
  have KB : Hid (∀ w, Calls Try.prog 24 #[.int .i64 (n : Int), .int .i64 (u : Int)] w (RetSame (.int .i64 (S : Int)) w)) := hide (fun w => by
    have := r_siz (n : Int) (u : Int) w ⟨by omega, by omega⟩ ⟨by omega, by omega⟩
    rw [siz_in (by omega) hw64, hpS] at this
    exact this)
  have hS3 : S ≤ 1048576 := by have := nv_le (n := n) (v := u) (by omega) hw64; omega
  have d1 : decide ((z : Int) ≤ (t : Int)) = true := decide_eq_true (by omega)
  have d2 : decide ((z : Int) ≤ (2 : Int) + (S : Int)) = true := decide_eq_true (by omega)
  have d3 : decide ((0 : Int) < (z : Int)) = true := decide_eq_true (by omega)
  have d4 : decide (0 < z) = true := decide_eq_true (by omega)
  have d5 : decide (z ≤ t) = true := decide_eq_true (by omega)
  have Hn := hide hn
  have Hq := hide hq
  have Ht := hide ht
  have hV := encV_le hq
  have ht2 : t ≤ 1000 := by omega
  clear hB KN KL kl T1 E1 hu hn hq hln hsz hok hS hz ht hpS hV
  go_upto_region 3 with (go_at_call 10; (with_reducible refine (KE.out).mono ?_); rintro e w3 ⟨A3, c3, rfl, hE3⟩; have S3 := hide (S2.out.ext hE3); clear hE3)
  go_wp2_with fail
  go_loopw [6, 7] (fun s i wr => ∃ (k x : Nat), k ≤ n ∧ i = .int .i64 (k : Int) ∧ s = .int .i64 (x : Int) ∧ x ≤ 1 + 10 * k ∧ Hid (1 + (encV (m.take k)).length = x) ∧ Hid (Bs W B A n cap m wr)) (fun _ i _ => n - (intOf i).toNat)
  case atStart => exact ⟨0, 1, by omega, rfl, rfl, by omega, hide (by simp [encV]), S3⟩
  case round =>
    clear S2 S3 KE
    obtain ⟨k, x, hk, rfl, rfl, hx, HZ, HS⟩ := hrel
    by_cases hlt : k < n
    · have hkl : k < m.length := by rw [Hn.out]; exact hlt
      obtain ⟨b, off, rfl, hb1, hc1⟩ := HS.out.words.2.2 (by omega)
      have dd := hc1 k hkl
      have hv := Hq.out.get k
      have hst := encV_take hkl
      have h10 : (encB (m.getD k 0)).length ≤ 10 := encB_length_le _ 9 (by omega)
      obtain ⟨v, hvv⟩ : ∃ v, m.getD k 0 = v := ⟨_, rfl⟩
      rw [hvv] at dd hst hv h10
      have KS1 := hide (fun w => KS.out v w hv)
      obtain ⟨j, hj⟩ : ∃ j, (encB v).length = j := ⟨_, rfl⟩
      rw [hj] at KS1 h10
      have HZ1 : Hid (1 + (encV (m.take (k + 1))).length = x + j) := hide (by rw [hst, List.length_append, hj, ← HZ.out]; omega)
      clear hb1 hc1 hst hvv hj hkl HZ
      go_wp2_with (go_at_call 23; (with_reducible refine (KS1.out _).mono ?_); rintro e w5 ⟨rfl, hE⟩)
      have HS5 := hide (HS.out.ext hE)
      clear hE
      go_roundw
      case rel => exact ⟨k + 1, x + j, by omega, by go_num, by go_num, by omega, HZ1, HS5⟩
      case measure => simp [intOf]; omega
    · obtain rfl : k = n := by omega
      obtain rfl : x = t := by
        have := HZ.out
        rw [List.take_of_length_le (by have := Hn.out; omega)] at this
        have := Ht.out
        omega
      have d0 : decide ((k : Int) < (k : Int)) = false := decide_eq_false (by omega)
      clear HZ
      go_wp2_with (first
        | (go_at_call 13; (with_reducible refine (KK.out _).mono ?_); rintro e w7 ⟨rfl, hE7⟩; have S7 := hide (HS.out.ext hE7); have kw := hide (KW.out w7 S7.out); clear hE7)
        | (go_at_call 15; (with_reducible refine (kw.out).mono ?_); rintro e w8 ⟨rfl, hE8⟩; have S8 := hide (S7.out.ext hE8); clear hE8)
        | (go_at_call 24; (with_reducible refine (KB.out _).mono ?_); rintro e w9 ⟨rfl, rfl⟩))
      go_ret
      exact ⟨rfl, S8.out.e⟩
end Go.Proofs.Ytnmkmjfehgmlkaa
