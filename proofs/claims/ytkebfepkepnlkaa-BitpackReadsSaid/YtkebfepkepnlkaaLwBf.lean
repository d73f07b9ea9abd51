/- Layer 8: BitpackForms. Conditions: the slices read as numbers. -/
import Derived.Test.YtkebfepkepnlkaaLwBb
namespace Go.Proofs.Ytkebfepkepnlkaa
set_option linter.unusedVariables false
set_option linter.unusedSimpArgs false
open Go Go.RowKit
set_option maxRecDepth 100000 in
set_option maxHeartbeats 3200000 in
theorem law_bforms (A : Option Addr) (n c : Nat) (l : List Nat) (wd nn : Int) (y : Option Addr) (len cap4 : Nat) (W : World) (hl : WordsAt W A l) (hn : l.length = n) (hwd : I64 wd) (hnn : I64 nn) (hL : IsList W y len cap4) :
    Calls Try.prog 3 #[.slice A n c, .int .i64 wd, .int .i64 nn, .slice y len cap4] W (Ret (.bool true) W) := by
  have KN : Hid (Calls Try.prog 7 #[.slice y len cap4] W (NewPost W)) := t_new W y len cap4 hL
  have KL := hide (fun w h => l_list W.heap.size W.heap.size w h)
  have j1 : I64 65539 := ⟨by omega, by omega⟩
  have j2 : I64 68 := ⟨by omega, by omega⟩
  have j3 : I64 3 := ⟨by omega, by omega⟩
  have KM1 := hide (fun w => t_modI nn 65539 w hnn j1)
  have KM2 := hide (fun w => t_modI wd 68 w hwd j2)
  have KK := hide (fun w => l_known8 w)
  have KPl : Hid (∀ x, I64 x → ∀ w, Ext W w → Calls Try.prog 12 #[.slice A n c, .int .i64 x] w (Ret (.bool true) w)) := hide (fun x hx w hw => l_packs A n c l x w (hl.ext hw) hn hx)
  have KZ1 : Hid (∀ a b, I64 a → I64 b → ∀ w, Calls Try.prog 14 #[.int .i64 a, .int .i64 b] w (RetSame (.int .i64 (siz a b)) w)) := hide (fun a b ha hb w => p_siz a b w ha hb)
  have KZ2 : Hid (∀ a b, I64 a → I64 b → ∀ w, Calls Try.prog 15 #[.int .i64 a, .int .i64 b] w (RetSame (.int .i64 (siz a b)) w)) := hide (fun a b ha hb w => r_siz a b w ha hb)
  clear hL hl hn
  go_enter Try.func3, Try.ntmps3
  go_upto_region 3 with (first
    | (go_at_call 7; (with_reducible refine (KN.out).mono ?_); rintro e w1 ⟨rfl, hT, hE⟩; have T1 := hide hT; have E1 := hide hE; have kl := hide (KL.out w1 hT); clear hT hE)
    | (go_at_call 8; (with_reducible refine (kl.out).mono ?_); rintro e w2 ⟨Am, nm, capm, m, rfl, hnm, hn29, hncap, hO, hT2, hU2⟩; have S2 := hide (Bs.of E1.out T1.out rfl hO hT2 hU2); clear hO hT2 hU2 hncap))
  obtain ⟨B, hB⟩ : ∃ B, w1.heap.size = B := ⟨_, rfl⟩
  rw [hB] at S2
  have hq := S2.out.o.2
  obtain ⟨u, hu⟩ : ∃ u, wdt m = u := ⟨_, rfl⟩
  have hu64 : u ≤ 64 := by rw [← hu]; exact wdt_le hq
  have KW : Hid (Calls Try.prog 9 #[.slice Am nm capm] w2 (Ret (.int .i64 (u : Int)) w2)) := hide (by have := r_wd Am nm capm m w2 S2.out.words hnm; rw [hu] at this; exact this)
  have KPm : Hid (∀ x, I64 x → ∀ w, Bs W B Am nm capm m w → Calls Try.prog 12 #[.slice Am nm capm, .int .i64 x] w (Ret (.bool true) w)) := hide (fun x hx w s => l_packs Am nm capm m x w s.words hnm hx)
  clear hB KN KL kl T1 E1 hu hnm hq
  go_upto_region 5 with (first
    | (go_at_call 9; (with_reducible refine (KW.out).mono ?_); rintro e w3 ⟨rfl, hE⟩; have S3 := hide (S2.out.ext hE); clear hE)
    | (go_at_call 10; (with_reducible refine (KM1.out _).mono ?_); rintro e w1 ⟨z1, rfl, hz1, rfl⟩; have z1a := hz1.1; have z1b := hz1.2.1 (by omega); clear hz1)
    | (go_at_call 10; (with_reducible refine (KM2.out _).mono ?_); rintro e w1 ⟨z2, rfl, hz2, rfl⟩; have z2a := hz2.1; have z2b := hz2.2.1 (by omega); clear hz2))
  have ia : I64 (z1 - 1) := ⟨by omega, by omega⟩
  have ic : I64 (z2 - 1) := ⟨by omega, by omega⟩
  have iu : I64 (u : Int) := ⟨by omega, by omega⟩
  have iu1 : I64 ((u : Int) - 1) := ⟨by omega, by omega⟩
  have KP2 := hide (KPl.out wd hwd)
  have KP3 := hide (KPl.out _ ic)
  have KP4 := hide (KPm.out _ iu)
  have KP5 := hide (KPm.out _ iu1)
  have KA1 := hide (KZ1.out nn wd hnn hwd)
  have KA2 := hide (KZ2.out nn wd hnn hwd)
  have KB1 := hide (KZ1.out _ _ ia ic)
  have KB2 := hide (KZ2.out _ _ ia ic)
  obtain ⟨s1, hs1⟩ : ∃ s, siz nn wd = s := ⟨_, rfl⟩
  obtain ⟨s2, hs2⟩ : ∃ s, siz (z1 - 1) (z2 - 1) = s := ⟨_, rfl⟩
  rw [hs1] at KA1 KA2
  rw [hs2] at KB1 KB2
  have e1 : (s1 == s1) = true := by simp
  have e2 : (s2 == s2) = true := by simp
  have KX : Hid (∀ w, TapeOk W.heap.size w W.heap.size → Calls Try.prog 13 #[.pointer (some ⟨W.heap.size, 0, none⟩), .int .i64 3] w (NextPost W.heap.size W.heap.size (InN 3) .i64 w)) := fun w h => t_next W.heap.size W.heap.size 3 w j3 h
  clear hs1 hs2 KW KPl KZ1 KZ2 KM1 KM2
  go_wp2_with (first
    | (go_at_call 11; (with_reducible refine (KK.out _).mono ?_); rintro e w4 ⟨rfl, hE4⟩; have S4 := hide (S3.out.ext hE4); have k5 := hide (KP2.out w4 S4.out.e); clear hE4)
    | (go_at_call 12; (with_reducible refine (k5.out).mono ?_); rintro e w5 ⟨rfl, hE5⟩; have S5 := hide (S4.out.ext hE5); have k6 := hide (KP3.out w5 S5.out.e); clear hE5)
    | (go_at_call 12; (with_reducible refine (k6.out).mono ?_); rintro e w6 ⟨rfl, hE6⟩; have S6 := hide (S5.out.ext hE6); have k7 := hide (KP4.out w6 S6.out); clear hE6)
    | (go_at_call 12; (with_reducible refine (k7.out).mono ?_); rintro e w7 ⟨rfl, hE7⟩; have S7 := hide (S6.out.ext hE7); have k8 := hide (KP5.out w7 S7.out); clear hE7)
    | (go_at_call 12; (with_reducible refine (k8.out).mono ?_); rintro e w8 ⟨rfl, hE8⟩; have S8 := hide (S7.out.ext hE8); have k9 := hide (KX.out w8 S8.out.t); clear hE8)
    | (go_at_call 13; (with_reducible refine (k9.out).mono ?_); rintro e w9 ⟨z9, rfl, hz9, hT9, hU9⟩; have S9 := hide (S8.out.upd hU9 hT9); have z9a := hz9.1; have z9b := hz9.2.1 (by omega); have i9 : I64 ((u : Int) + z9) := ⟨by omega, by omega⟩; have k10 := hide (KPm.out _ i9 w9 S9.out); clear hz9 hT9 hU9)
    | (go_at_call 12; (with_reducible refine (k10.out).mono ?_); rintro e w10 ⟨rfl, hE10⟩; have S10 := hide (S9.out.ext hE10); clear hE10)
    | (go_at_call 14; (with_reducible refine (KA1.out _).mono ?_); rintro e w11 ⟨rfl, rfl⟩)
    | (go_at_call 15; (with_reducible refine (KA2.out _).mono ?_); rintro e w12 ⟨rfl, rfl⟩)
    | (go_at_call 14; (with_reducible refine (KB1.out _).mono ?_); rintro e w13 ⟨rfl, rfl⟩)
    | (go_at_call 15; (with_reducible refine (KB2.out _).mono ?_); rintro e w14 ⟨rfl, rfl⟩))
  go_ret
  exact ⟨rfl, S10.out.e⟩
end Go.Proofs.Ytkebfepkepnlkaa
