/- Layer 8: BitpackCanonical. Conditions: the slice reads as bytes. -/
import Derived.Test.YtkebfepkepnlkaaBpL
namespace Go.Proofs.Ytkebfepkepnlkaa
set_option linter.unusedVariables false
set_option linter.unusedSimpArgs false
open Go Go.RowKit
theorem t_modI (a n : Int) (w : World) (ha : I64 a) (hn : I64 n) : Calls Try.prog 10 #[.int .i64 a, .int .i64 n] w (IntIn (InN n) .i64 w) :=
  (t_mod a n w ha hn).mono fun _ _ q => ⟨_, q.1, modN_in _ _, q.2.symm⟩
set_option maxRecDepth 100000 in
set_option maxHeartbeats 1600000 in
theorem law_bcanon (A : Option Addr) (c cap : Nat) (b : List Nat) (wd : Int) (W : World) (hb : BytesAt W A b) (hc : b.length = c) (hcap : c ≤ cap) (hcap2 : cap ≤ 140737488351232) (hwd : I64 wd) :
    Calls Try.prog 6 #[.slice A c cap, .int .i64 wd] W (Ret (.bool true) W) := by
  have i64 : I64 64 := ⟨by omega, by omega⟩
  have KM := hide (fun w => t_modI wd 64 w hwd i64)
  have KK := hide (fun w => l_known8 w)
  have HB := hide hb
  have Hc := hide hc
  clear hb hc
  go_enter Try.func6, Try.ntmps6
  go_upto_region 2 with (go_at_call 10; (with_reducible refine (KM.out _).mono ?_); rintro e w1 ⟨v, rfl, hv, rfl⟩)
  obtain ⟨v', rfl⟩ := Int.eq_ofNat_of_zero_le hv.1
  have hv2 : v' < 64 := by have := hv.2.1 (by omega); omega
  obtain ⟨v, hvv⟩ : ∃ v, 1 + v' = v := ⟨_, rfl⟩
  have ev : (1 : Int) + (v' : Int) = (v : Int) := by omega
  have hv64 : v ≤ 64 := by omega
  have hv0 : ¬ v = 0 := by omega
  have hv1 : 1 ≤ v := by omega
  obtain ⟨n, hnn⟩ : ∃ n, 8 * c / v = n := ⟨_, rfl⟩
  have en : (8 * (c : Int)).tdiv (v : Int) = (n : Int) := by rw [Int.tdiv_eq_ediv_of_nonneg (by omega), ← hnn]; simp
  have en2 : (8 * (c : Int)) / (v : Int) = (n : Int) := by rw [← hnn]; simp
  have hn63 : n ≤ 8 * c := by rw [← hnn]; exact Nat.div_le_self _ _
  have ew : wrap64 (v : Int) = (v : Int) := by simp only [wrap64]; omega
  rw [ev, ew]
  have i1 : I64 (n : Int) := ⟨by omega, by omega⟩
  have i2 : I64 (v : Int) := ⟨by omega, by omega⟩
  have KU : Hid (∀ w, Ext W w → Calls Try.prog 21 #[.slice A c cap, .int .i64 (n : Int), .int .i64 (v : Int)] w (UpPost (upR b n v) w)) := hide (fun w hw => p_unpack A c cap b n v w (HB.out.ext hw) Hc.out i1 i2)
  clear hv hvv hnn ev ew
  cases hu : upR b n v with
  | none =>
    rw [hu] at KU
    have KU := hide (KU.out W (Ext.refl _))
    clear hu
    go_wp2_with (first
      | (go_at_call 21; (with_reducible refine (KU.out).mono ?_); rintro e w2 hP; obtain ⟨A1, c1, rfl, _, _, _, _, hE2⟩ := hP.parts; have E2 := hide hE2; clear hE2 hP)
      | (go_at_call 11; (with_reducible refine (KK.out _).mono ?_); rintro e w3 ⟨rfl, hE3⟩; have E3 := hide (Ext.trans E2.out hE3); clear hE3))
    go_ret
    exact ⟨rfl, E3.out⟩
  | some q =>
    have hp := pkR_up HB.out.1 hu
    rw [hu] at KU
    obtain ⟨m, hm⟩ : ∃ m, q.length = m := ⟨_, rfl⟩
    have KU : Hid (Calls Try.prog 21 #[.slice A c cap, .int .i64 (n : Int), .int .i64 (v : Int)] W fun e w' => ∃ A cap, e = .returned (.tuple #[.slice A m cap, .bool true]) ∧ WordsAt w' A q ∧ Ext W w') := hide ((KU.out W (Ext.refl _)).mono fun e w' h => by
      obtain ⟨A, cap, rfl, _, _, _, hb, hE⟩ := UpPost.parts h
      rw [show (some q).getD [] = q from rfl] at hb
      exact ⟨A, cap, by rw [← hm]; rfl, hb, hE⟩)
    have KP : Hid (∀ A1 c1 w, WordsAt w A1 q → Calls Try.prog 20 #[.slice A1 m c1, .int .i64 (v : Int)] w fun e w' => ∃ A cap, e = .returned (.tuple #[.slice A c cap, .bool true]) ∧ BytesAt w' A b ∧ Ext w w') := hide (fun A1 c1 w hw => (p_pack A1 m c1 q v w hw hm i2).mono fun e w' h => by
      rw [hp] at h
      obtain ⟨A, cap, rfl, _, _, _, hb, hE⟩ := PkPost.parts h
      rw [show (some b).getD [] = b from rfl] at hb
      exact ⟨A, cap, by rw [← Hc.out]; rfl, hb, hE⟩)
    have KS : Hid (∀ A2 c2 w, Ext W w → BytesAt w A2 b → Calls Try.prog 23 #[.slice A c cap, .slice A2 c c2] w (Ret (.bool true) w)) := hide (fun A2 c2 w hw h2 => r_same A A2 c c cap c2 b b w (HB.out.ext hw) h2 Hc.out Hc.out true (by simp))
    clear hu hp hm
    go_wp2_with (first
      | (go_at_call 21; (with_reducible refine (KU.out).mono ?_); rintro e w2 ⟨A1, c1, rfl, hb2, hE2⟩; have E2 := hide hE2; have k3 := hide (KP.out A1 c1 w2 hb2); clear hE2 hb2)
      | (go_at_call 20; (with_reducible refine (k3.out).mono ?_); rintro e w3 ⟨A2, c2, rfl, hb3, hE3⟩; have E3 := hide (Ext.trans E2.out hE3); have b3 := hide hb3; clear hE3 hb3)
      | (go_at_call 11; (with_reducible refine (KK.out _).mono ?_); rintro e w4 ⟨rfl, hE4⟩; have E4 := hide (Ext.trans E3.out hE4); have k5 := hide (KS.out A2 c2 w4 E4.out (b3.out.ext hE4)); clear hE4)
      | (go_at_call 23; (with_reducible refine (k5.out).mono ?_); rintro e w5 ⟨rfl, hE5⟩; have E5 := hide (Ext.trans E4.out hE5); clear hE5))
    go_ret
    exact ⟨rfl, E5.out⟩
end Go.Proofs.Ytkebfepkepnlkaa
