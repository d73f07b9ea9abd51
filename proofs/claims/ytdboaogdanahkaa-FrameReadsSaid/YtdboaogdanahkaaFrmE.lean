/- The reference's Size and Encode of layer 7. Conditions: the slice reads as bytes. -/
import Derived.Test.YtdboaogdanahkaaFrmC
namespace Go.Proofs.Ytdboaogdanahkaa
set_option linter.unusedVariables false
set_option linter.unusedSimpArgs false
open Go Go.RowKit
theorem r_fsize (n : Int) (w : World) (h : I64 n) : Calls Try.prog 29 #[.int .i64 n] w (RetSame (.int .i64 (fsz n)) w) := by
  obtain ⟨v, hv⟩ : ∃ v, fsz n = v := ⟨_, rfl⟩
  have HV := hide hv
  have hi := h.1
  have hj := h.2
  rw [hv]
  clear hv
  by_cases h1 : n < 0
  · have e : v = 0 := by rw [← HV.out]; unfold fsz; rw [if_pos h1]
    subst e
    have d1 : decide (n < 0) = true := decide_eq_true h1
    go_enter Try.func29, Try.ntmps29
    go_wp2_with fail
    go_ret
    exact ⟨rfl, rfl⟩
  · have d1 : decide (n < 0) = false := decide_eq_false h1
    by_cases h2 : 4194304 < n
    · have e : v = 0 := by rw [← HV.out]; unfold fsz; rw [if_neg h1, if_pos h2]
      subst e
      have d2 : decide (4194304 < n) = true := decide_eq_true h2
      go_enter Try.func29, Try.ntmps29
      go_wp2_with fail
      go_ret
      exact ⟨rfl, rfl⟩
    · have e : v = n + 13 := by rw [← HV.out]; unfold fsz; rw [if_neg h1, if_neg h2]
      have d2 : decide (4194304 < n) = false := decide_eq_false h2
      go_enter Try.func29, Try.ntmps29
      go_wp2_with fail
      go_ret
      refine ⟨congrArg (fun z => Ending.returned (.int .i64 z)) ?_, rfl⟩
      omega
/-- A head, as the reference and the laws make it: the kind's slice lies where it was made just now. -/
theorem r_head5 (kd n : Nat) (w : World) (hk : kd < 256) (hn : n < 18446744073709551616) : Calls Try.prog 31 #[.slice (some ⟨w.heap.size, 0, none⟩) 1 1, .int .u64 (n : Int), .int .i64 4] (w.alloc (.cells #[.int .u8 (kd : Int)] 5)) (OwnL (hd5 kd n) 5 (w.alloc (.cells #[.int .u8 (kd : Int)] 5))) :=
  (r_number (some ⟨w.heap.size, 0, none⟩) 1 1 n 4 [kd] _ (one_at w kd hk _ rfl) rfl (by omega) hn (by omega)).mono fun _ _ q => OwnRet.len (hd5_len _ _) q
theorem r_head9 (kd n : Nat) (A : Option Addr) (cap : Nat) (w : World) (h : BytesAt w A (hd5 kd n)) : Calls Try.prog 30 #[.slice A 5 cap] w (OwnL (hd9 kd n) 9 w) :=
  (r_append A 5 cap (hd5 kd n) w h (hd5_len _ _) (by omega)).mono fun _ _ q => OwnRet.len (hd9_len _ _) q
set_option maxRecDepth 100000 in
set_option maxHeartbeats 3200000 in
theorem r_fencode (kd : Nat) (A : Option Addr) (c cap : Nat) (l : List Nat) (W : World) (hk : kd < 256) (hb : BytesAt W A l) (hc : l.length = c) (hlen : c ≤ 4611686018427387904) (x : List Nat) (e : Nat) (hr : frN kd l = (x, e)) :
    Calls Try.prog 26 #[.int .u8 (kd : Int), .slice A c cap] W (OwnE x e W) := by
  unfold frN at hr
  by_cases h9 : 4194304 < c
  · rw [if_pos (by omega)] at hr
    cases hr
    have d1 : decide ((4194304 : Int) < (c : Int)) = true := decide_eq_true (by omega)
    clear hb hc
    go_enter Try.func26, Try.ntmps26
    go_wp2_with fail
    go_ret2
    exact ⟨_, rfl, OwnB.nil_ _ _, Ext.refl _⟩
  · rw [if_neg (by omega)] at hr
    obtain ⟨rfl, rfl⟩ := Prod.mk.inj hr
    have d1 : decide ((4194304 : Int) < (c : Int)) = false := decide_eq_false (by omega)
    have h9 : c ≤ 4194304 := by omega
    have KN := hide (r_head5 kd c W hk (by omega))
    have E1 := hide (ext_alloc W (.cells #[.int .u8 (kd : Int)] 5))
    have KH : Hid (∀ A cap w, BytesAt w A (hd5 kd c) → Calls Try.prog 30 #[.slice A 5 cap] w (OwnL (hd9 kd c) 9 w)) := fun A cap w h => r_head9 kd c A cap w h
    have KA : Hid (∀ w, Ext W w → Calls Try.prog 30 #[.slice A c cap] w (OwnL (l ++ tailL (crcB 0#32 l)) (c + 4) w)) := fun w h => (r_append A c cap l w (hb.ext h) hc (by omega)).mono fun _ _ q => OwnRet.len (by rw [List.length_append, hc]; rfl) q
    have HE0 : Hid (frE kd l = hd9 kd c ++ (l ++ tailL (crcB 0#32 l))) := by
      show _ = _
      rw [← hc]; rfl
    obtain ⟨p1, hp1⟩ : ∃ p, hd9 kd c = p := ⟨_, rfl⟩
    obtain ⟨p2, hp2⟩ : ∃ p, l ++ tailL (crcB 0#32 l) = p := ⟨_, rfl⟩
    obtain ⟨p3, hp3⟩ : ∃ p, hd5 kd c = p := ⟨_, rfl⟩
    rw [hp1] at KH HE0
    rw [hp2] at KA HE0
    rw [hp3] at KN KH
    clear hr hb hc hp1 hp2 hp3
    go_enter Try.func26, Try.ntmps26
    go_upto_region 4 with (first
      | (go_at_call 31; (with_reducible refine (KN.out).mono ?_); rintro e w2 ⟨A2, cap2, rfl, -, -, -, -, hb2, hE2⟩; have E2 := hide (Ext.trans E1.out hE2); have KH := hide (KH.out A2 cap2 w2 hb2); clear hb2 hE2)
      | (go_at_call 30; (with_reducible refine (KH.out).mono ?_); rintro e w3 ⟨A3, cap3, rfl, hl3, -, -, hO3, -, hE3⟩; have hO3 := hide (hO3.less E2.out.size); have hl3 := hide hl3; have E3 := hide (Ext.trans E2.out hE3); clear hE3))
    go_wp2_with (first
      | (go_at_call 30; (with_reducible refine (KA.out _ E3.out).mono ?_); rintro e w4 ⟨A4, cap4, rfl, hl4, -, -, -, hb4, hE4⟩; have hO3 := hide (OwnB.ext hO3.out hE4); have hb4 := hide hb4; have hl4 := hide hl4; have E4 := hide (Ext.trans E3.out hE4); have hs4 := hide E4.out.size; clear hE4)
      | (at_builtin; refine wl_append8 rfl (.tmp 17) (.tmp 19) rfl W.heap.size (.slice A3 9 cap3) p1 p2 rfl hO3.out A4 (c + 4) cap4 rfl hb4.out hl4.out (by rw [hl3.out, hl4.out]; omega) hs4.out ?_; intro v5 w5 hO5 hG5 _; have hO5 := hide hO5; have E5 := hide (below_grown E4.out (Nat.le_refl _) hO3.out hG5); clear hG5))
    go_ret2
    exact ⟨_, rfl, by rw [HE0.out]; exact hO5.out, E5.out⟩
end Go.Proofs.Ytdboaogdanahkaa
