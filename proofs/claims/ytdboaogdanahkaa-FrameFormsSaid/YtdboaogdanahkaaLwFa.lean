/- Layer 7: FrameForms and FramePrefixes. Conditions: the slice reads as bytes. -/
import Derived.Test.YtdboaogdanahkaaFrmH
namespace Go.Proofs.Ytdboaogdanahkaa
set_option linter.unusedVariables false
set_option linter.unusedSimpArgs false
open Go Go.RowKit
set_option maxRecDepth 100000 in
set_option maxHeartbeats 3200000 in
theorem law_fforms (kd : Nat) (A : Option Addr) (c cap : Nat) (l : List Nat) (n : Int) (W : World) (hk : kd < 256) (hb : BytesAt W A l) (hc : l.length = c) (hcap : c ≤ cap) (hcap2 : cap ≤ 140737488351232) (hn : I64 n) :
    Calls Try.prog 5 #[.int .u8 (kd : Int), .slice A c cap, .int .i64 n] W (Ret (.bool true) W) := by
  obtain ⟨x, e, hr⟩ : ∃ x e, frN kd l = (x, e) := ⟨_, _, rfl⟩
  have K1 : Hid (Calls Try.prog 25 #[.int .u8 (kd : Int), .slice A c cap] W (OwnE x e W)) := p_fencode kd A c cap l W hk hb hc (by omega) x e hr
  have K2 : Hid (∀ w, Ext W w → Calls Try.prog 26 #[.int .u8 (kd : Int), .slice A c cap] w (OwnE x e w)) := fun w h => r_fencode kd A c cap l w hk (hb.ext h) hc (by omega) x e hr
  have KM : Hid (∀ w, Calls Try.prog 15 #[.int .i64 n, .int .i64 4194308] w (IntIn (InN 4194308) .i64 w)) := fun w => (t_mod n 4194308 w hn ⟨by omega, by omega⟩).mono fun _ _ q => ⟨_, q.1, modN_in _ _, q.2.symm⟩
  have KK : Hid (∀ w, Calls Try.prog 27 #[] w (Ret (.bool true) w)) := fun w => l_known7 w
  have KS : Hid (∀ w n, I64 n → Calls Try.prog 28 #[.int .i64 n] w (RetSame (.int .i64 (fsz n)) w)) := fun w n h => p_fsize n w h
  have KT : Hid (∀ w n, I64 n → Calls Try.prog 29 #[.int .i64 n] w (RetSame (.int .i64 (fsz n)) w)) := fun w n h => r_fsize n w h
  have Hn := hide hn
  clear hr hb hc hn
  go_enter Try.func5, Try.ntmps5
  go_upto_region 2 with (go_at_call 25; (with_reducible refine (K1.out).mono ?_); rintro en w1 ⟨v1, rfl, hO1, hE1⟩; obtain ⟨A1, c1, rfl, hle1, -, hb1⟩ := hO1.at_)
  have hE1 := hide hE1
  have hb1 := hide hb1
  go_upto_region 3 with (go_at_call 26; (with_reducible refine (K2.out _ hE1.out).mono ?_); rintro en w2 ⟨v2, rfl, hO2, hE2⟩; obtain ⟨A2, c2, rfl, hle2, -, hb2⟩ := hO2.at_)
  have hb3 := hide (hb1.out.ext hE2)
  have hb2 := hide hb2
  have hE3 := hide (Ext.trans hE1.out hE2)
  go_upto_region 4 with (go_at_call 15; (with_reducible refine (KM.out _).mono ?_); rintro en w3 ⟨m, rfl, hm, rfl⟩)
  have hm1 := hm.1
  have hm2 := hm.2.1 (by omega)
  have k1 := hide (fun w => KS.out w n Hn.out)
  have k2 := hide (fun w => KT.out w n Hn.out)
  have k3 := hide (fun w => KS.out w m ⟨by omega, by omega⟩)
  have k4 := hide (fun w => KT.out w m ⟨by omega, by omega⟩)
  have k5 : Hid (∀ w, Calls Try.prog 28 #[.int .i64 4194304] w (RetSame (.int .i64 4194317) w)) := fun w => KS.out w 4194304 ⟨by omega, by omega⟩
  have KE : Hid (∀ w, Ext w2 w → Calls Try.prog 21 #[.slice A1 x.length c1, .slice A2 x.length c2] w (Ret (.bool true) w)) := fun w h => r_same A1 A2 x.length x.length c1 c2 x x w (hb3.out.ext h) (hb2.out.ext h) rfl rfl true (by simp)
  obtain ⟨u, hu⟩ : ∃ u, fsz n = u := ⟨_, rfl⟩
  obtain ⟨t, ht⟩ : ∃ t, fsz m = t := ⟨_, rfl⟩
  rw [hu] at k1 k2
  rw [ht] at k3 k4
  clear hu ht hm hO1 hO2 hb1 hb2 hb3 hE1 hE2 KS KT KM K1 K2
  go_wp2_with (first
    | (go_at_call 27; (with_reducible refine (KK.out _).mono ?_); rintro en w4 ⟨rfl, hE4⟩; have hE4 := hide hE4)
    | (go_at_call 21; (with_reducible refine (KE.out _ hE4.out).mono ?_); rintro en w5 ⟨rfl, hE5⟩; have hE5 := hide hE5)
    | (go_at_call 28; (with_reducible refine (k1.out _).mono ?_); rintro en w6 ⟨rfl, rfl⟩)
    | (go_at_call 28; (with_reducible refine (k3.out _).mono ?_); rintro en w6 ⟨rfl, rfl⟩)
    | (go_at_call 28; (with_reducible refine (k5.out _).mono ?_); rintro en w6 ⟨rfl, rfl⟩)
    | (go_at_call 29; (with_reducible refine (k2.out _).mono ?_); rintro en w6 ⟨rfl, rfl⟩)
    | (go_at_call 29; (with_reducible refine (k4.out _).mono ?_); rintro en w6 ⟨rfl, rfl⟩))
  go_ret
  exact ⟨rfl, Ext.trans hE3.out (Ext.trans hE4.out hE5.out)⟩
set_option maxRecDepth 100000 in
set_option maxHeartbeats 3200000 in
theorem law_fpre (kd : Nat) (A : Option Addr) (c cap : Nat) (l : List Nat) (n : Int) (W : World) (hk : kd < 256) (hb : BytesAt W A l) (hc : l.length = c) (hcap : c ≤ cap) (hcap2 : cap ≤ 140737488351232) (hn : I64 n) :
    Calls Try.prog 9 #[.int .u8 (kd : Int), .slice A c cap, .int .i64 n] W (Ret (.bool true) W) := by
  obtain ⟨d, hd⟩ : ∃ d, min c 4194304 = d := ⟨_, rfl⟩
  have hmin : min (c : Int) 4194304 = (d : Int) := by omega
  have hdc : d ≤ c := by omega
  have hd4 : d ≤ 4194304 := by omega
  have hs := run_upto A c d cap (by omega)
  have hbd := hb.take d
  obtain ⟨p, hp⟩ : ∃ p, l.take d = p := ⟨_, rfl⟩
  rw [hp] at hbd
  have hpl : p.length = d := by rw [← hp, List.length_take]; omega
  have K1 : Hid (Calls Try.prog 25 #[.int .u8 (kd : Int), .slice A d cap] W (OwnE (frE kd p) 0 W)) := p_fencode kd A d cap p W hk hbd hpl (by omega) _ _ (by unfold frN; rw [if_neg (by omega)])
  have KM : Hid (∀ w, Calls Try.prog 15 #[.int .i64 n, .int .i64 ((d : Int) + 13)] w (IntIn (InN ((d : Int) + 13)) .i64 w)) := fun w => (t_mod n ((d : Int) + 13) w hn ⟨by omega, by omega⟩).mono fun _ _ q => ⟨_, q.1, modN_in _ _, q.2.symm⟩
  have KK : Hid (∀ w, Calls Try.prog 27 #[] w (Ret (.bool true) w)) := fun w => l_known7 w
  have Hcut : Hid (∀ m, m < d + 13 → frR ((frE kd p).take m) 0 = (0, [], 0, 4)) := fun m hm => frR_cut kd p m (by omega) (by omega)
  have hFl : (frE kd p).length = d + 13 := by rw [frE_len, hpl]
  obtain ⟨F, hF⟩ : ∃ F, frE kd p = F := ⟨_, rfl⟩
  rw [hF] at K1 Hcut hFl
  have HF := hide hFl
  clear hb hc hd hp hbd hpl hF hFl
  go_enter Try.func9, Try.ntmps9
  go_upto_region 3 with (go_at_call 25; (with_reducible refine (K1.out).mono ?_); rintro en w1 ⟨v1, rfl, hO1, hE1⟩; obtain ⟨A1, c1, rfl, hle1, hcm1, hb1⟩ := hO1.at_; rw [HF.out] at hle1 ⊢)
  have hb1 := hide hb1
  have E1 := hide hE1
  have KD : Hid (∀ m : Nat, m < d + 13 → ∀ w, Ext w1 w → Calls Try.prog 33 #[.slice A1 m c1, .int .i64 0] w (FrmRet 0 [] 0 4 w)) := fun m hm w h => by
    have := p_fdec A1 m c1 (F.take m) 0 w ((hb1.out.take m).ext h) (by rw [List.length_take, HF.out]; omega) (by omega) (by omega) ⟨by omega, by omega⟩
    rw [Hcut.out m hm] at this
    exact this
  have KU : Hid (∀ m : Nat, m < d + 13 → ∀ w, (Instr.slice 22 (.slice A1 (d + 13) c1) none (some (.int .i64 (m : Int))) none).run Try.prog w = .ok (.slice A1 m c1) w) := fun m hm w => run_upto A1 (d + 13) m c1 (by omega) w
  have hzm : ∀ x : Int, InN ((d : Int) + 13) x → ∃ m : Nat, x = (m : Int) ∧ m < d + 13 := fun x hx => ⟨x.toNat, by have := hx.1; omega, by have := hx.2.1 (by omega); have := hx.1; omega⟩
  have Hzm := hide hzm
  clear hzm hO1 hE1
  go_upto_region 4 with (first
    | (go_at_call 15; (with_reducible refine (KM.out _).mono ?_); rintro en w2 ⟨x, rfl, hx, rfl⟩; obtain ⟨m, rfl, hm⟩ := Hzm.out x hx; have hu := KU.out m hm; have kd := hide (KD.out m hm w1 (Ext.refl _)); clear hx)
    | (go_at_call 33; (with_reducible refine (kd.out).mono ?_); rintro en w3 ⟨v3, rfl, hO3, hE3⟩; obtain ⟨A3, c3, rfl, -, -, -⟩ := hO3.at_; have hE3 := hide hE3))
  have E4 := Ext.trans (Ext.trans E1.out hE3.out) (ext_alloc w3 (.cells #[.int .u8 0, .slice A3 0 c3] 56))
  go_outline
  obtain ⟨w4, hw4⟩ : ∃ w, w3.alloc (.cells #[.int .u8 0, .slice A3 0 c3] 56) = w := ⟨_, rfl⟩
  rw [hw4] at E4 ⊢
  have E4 := hide E4
  clear hw4 hO3
  go_wp2_with (go_at_call 27; (with_reducible refine (KK.out _).mono ?_); rintro en w5 ⟨rfl, hE5⟩)
  go_ret
  exact ⟨rfl, Ext.trans E4.out hE5⟩
end Go.Proofs.Ytdboaogdanahkaa
