/- Layer 8: BitpackReads. Conditions: the slices read as bytes and numbers. -/
import Derived.Test.YtkebfepkepnlkaaLwBf
namespace Go.Proofs.Ytkebfepkepnlkaa
set_option linter.unusedVariables false
set_option linter.unusedSimpArgs false
open Go Go.RowKit
/-- A list that the tape gave, and bytes that were made of it: kept while other memory changes. -/
structure Br (W : World) (B B2 : Nat) (A : Option Addr) (n cap : Nat) (m : List Nat) (A2 : Option Addr) (c2 cap2 : Nat) (q : List Nat) (w : World) : Prop where
  s : Bs W B A n cap m w
  o : OwnB B2 w (.slice A2 c2 cap2) q
  gb : W.heap.size < B2
section
variable {W : World} {B B2 : Nat} {A A2 : Option Addr} {n cap c2 cap2 : Nat} {m q : List Nat} {w w' : World}
theorem Br.ext (s : Br W B B2 A n cap m A2 c2 cap2 q w) (k : Ext w w') : Br W B B2 A n cap m A2 c2 cap2 q w' := ⟨s.s.ext k, s.o.ext k, s.gb⟩
theorem Br.upd (s : Br W B B2 A n cap m A2 c2 cap2 q w) (u : Upd W.heap.size w w') (t : TapeOk W.heap.size w' W.heap.size) : Br W B B2 A n cap m A2 c2 cap2 q w' := ⟨s.s.upd u t, s.o.upd u s.gb, s.gb⟩
theorem Br.bytes (s : Br W B B2 A n cap m A2 c2 cap2 q w) (h : q.length = c2) : BytesAt w A2 q := (bytes_of_own s.o h).1
end
theorem pk_wdt {m : List Nat} (hq : IsQ m) (hn : m.length ≤ 65536) : ∃ q, pkR m (wdt m : Int) = some q ∧ q.length = (m.length * wdt m + 7) / 8 := by
  have := wdt_le hq
  refine ⟨upN (pkN m (wdt m)) ((m.length * wdt m + 7) / 8) 8, ?_, upN_len _ _ _⟩
  unfold pkR
  rw [if_neg (by omega), Int.toNat_natCast]
set_option maxRecDepth 100000 in
set_option maxHeartbeats 6400000 in
theorem law_breads (A : Option Addr) (c cap : Nat) (l : List Nat) (wd nn : Int) (y : Option Addr) (len cap4 : Nat) (W : World) (hb : BytesAt W A l) (hc : l.length = c) (hcap : c ≤ cap) (hcap2 : cap ≤ 140737488351232) (hwd : I64 wd) (hnn : I64 nn) (hL : IsList W y len cap4) :
    Calls Try.prog 4 #[.slice A c cap, .int .i64 nn, .int .i64 wd, .slice y len cap4] W (Ret (.bool true) W) := by
  have KN : Hid (Calls Try.prog 7 #[.slice y len cap4] W (NewPost W)) := t_new W y len cap4 hL
  have KL := hide (fun w h => l_list W.heap.size W.heap.size w h)
  have j1 : I64 65 := ⟨by omega, by omega⟩
  have j2 : I64 50 := ⟨by omega, by omega⟩
  have j3 : I64 3 := ⟨by omega, by omega⟩
  have KM1 := hide (fun w => t_modI wd 65 w hwd j1)
  have KM2 := hide (fun w => t_modI nn 50 w hnn j2)
  have KK := hide (fun w => l_known8 w)
  have KR : Hid (∀ a b, I64 a → I64 b → ∀ w, Ext W w → Calls Try.prog 17 #[.slice A c cap, .int .i64 a, .int .i64 b] w (Ret (.bool true) w)) := hide (fun a b ha hb2 w hw => l_unpacks A c cap l a b w (hb.ext hw) hc ha hb2)
  clear hL hb hc
  go_enter Try.func4, Try.ntmps4
  go_upto_region 3 with (first
    | (go_at_call 7; (with_reducible refine (KN.out).mono ?_); rintro e w1 ⟨rfl, hT, hE⟩; have T1 := hide hT; have E1 := hide hE; have kl := hide (KL.out w1 hT); clear hT hE)
    | (go_at_call 8; (with_reducible refine (kl.out).mono ?_); rintro e w2 ⟨Am, nm, capm, m, rfl, hnm, hn29, hncap, hO, hT2, hU2⟩; have S2 := hide (Bs.of E1.out T1.out rfl hO hT2 hU2); clear hO hT2 hU2 hncap))
  obtain ⟨B, hB⟩ : ∃ B, w1.heap.size = B := ⟨_, rfl⟩
  rw [hB] at S2
  have hq := S2.out.o.2
  obtain ⟨q, hqe, hql⟩ := pk_wdt hq (by omega)
  have hu64 := wdt_le hq
  have hq4 := nv_le (n := m.length) (v := wdt m) (by omega) hu64
  obtain ⟨u, hu⟩ : ∃ u, wdt m = u := ⟨_, rfl⟩
  rw [hu] at hqe hu64 hql hq4
  obtain ⟨cq, hcq⟩ : ∃ cq, q.length = cq := ⟨_, rfl⟩
  have hcq2 : cq ≤ 140737488355320 := by omega
  have iu : I64 (u : Int) := ⟨by omega, by omega⟩
  have KW : Hid (Calls Try.prog 9 #[.slice Am nm capm] w2 (Ret (.int .i64 (u : Int)) w2)) := hide (by have := r_wd Am nm capm m w2 S2.out.words hnm; rw [hu] at this; exact this)
  have KP : Hid (∀ w, Bs W B Am nm capm m w → Calls Try.prog 16 #[.slice Am nm capm, .int .i64 (u : Int)] w fun e w' => ∃ A2 c2, e = .returned (.tuple #[.slice A2 cq c2, .bool true]) ∧ OwnB w.heap.size w' (.slice A2 cq c2) q ∧ Ext w w') := hide (fun w s => (r_pack Am nm capm m _ w s.words hnm iu).mono fun e w' h => by
    rw [hqe] at h
    obtain ⟨A, cap, rfl, _, _, hO, _, hE⟩ := PkPost.parts h
    rw [show (some q).getD [] = q from rfl, hcq] at hO
    exact ⟨A, cap, by rw [← hcq]; rfl, hO, hE⟩)
  have Hcq := hide hcq
  clear hB KN KL kl T1 E1 hu hnm hq hqe hql hcq hq4
  go_upto_region 4 with (go_at_call 9; (with_reducible refine (KW.out).mono ?_); rintro e w3 ⟨rfl, hE⟩; have S3 := hide (S2.out.ext hE); clear hE)
  have kp := hide (KP.out w3 S3.out)
  have hgb : W.heap.size < w3.heap.size := S3.out.t.2.1
  go_upto_region 7 with (first
    | (go_at_call 16; (with_reducible refine (kp.out).mono ?_); rintro e w4 ⟨Ab, capb, rfl, hO, hE⟩; have S4 : Hid (Br W B w3.heap.size Am nm capm m Ab cq capb q w4) := hide ⟨S3.out.ext hE, hO, hgb⟩; clear hO hE)
    | (go_at_call 10; (with_reducible refine (KM1.out _).mono ?_); rintro e w1 ⟨z, rfl, hz1, rfl⟩; obtain ⟨v, rfl⟩ := Int.eq_ofNat_of_zero_le hz1.1; have hv65 : v ≤ 64 := (by have := hz1.2.1 (by omega); omega); clear hz1))
  obtain ⟨B2, hB2⟩ : ∃ B2, w3.heap.size = B2 := ⟨_, rfl⟩
  rw [hB2] at S4
  clear hB2 KP kp KW KM1 S3 hgb S2
  have iv : I64 (v : Int) := ⟨by omega, by omega⟩
  have inm : I64 (nm : Int) := ⟨by omega, by omega⟩
  have KP2 := hide (KR.out nn wd hnn hwd)
  have KX : Hid (∀ w, TapeOk W.heap.size w W.heap.size → Calls Try.prog 13 #[.pointer (some ⟨W.heap.size, 0, none⟩), .int .i64 3] w (NextPost W.heap.size W.heap.size (InN 3) .i64 w)) := fun w h => t_next W.heap.size W.heap.size 3 w j3 h
  have KB : Hid (∀ a, I64 a → ∀ w, Br W B B2 Am nm capm m Ab cq capb q w → Calls Try.prog 17 #[.slice Ab cq capb, .int .i64 a, .int .i64 (u : Int)] w (Ret (.bool true) w)) := hide (fun a ha w s => l_unpacks Ab cq capb q a u w (s.bytes Hcq.out) Hcq.out ha iu)
  have KS : Hid (∀ w, Br W B B2 Am nm capm m Ab cq capb q w → Calls Try.prog 18 #[.pointer (some ⟨W.heap.size, 0, none⟩), .slice Ab cq capb] w (SpoilPost W.heap.size W.heap.size cq w)) := hide (fun w s => t_spoiled W.heap.size W.heap.size Ab cq capb q w s.s.t (s.bytes Hcq.out) Hcq.out hcq2)
  have KQ : Hid (∀ As ns caps ls w, BytesAt w As ls → ls.length = ns → Calls Try.prog 17 #[.slice As ns caps, .int .i64 (nm : Int), .int .i64 (u : Int)] w (Ret (.bool true) w)) := hide (fun As ns caps ls w h1 h2 => l_unpacks As ns caps ls nm u w h1 h2 inm iu)
  obtain ⟨ft, hft⟩ : ∃ ft, 8 * c / v = ft := ⟨_, rfl⟩
  have hft2 : ft ≤ 8 * c := by rw [← hft]; exact Nat.div_le_self _ _
  have ef : (8 * (c : Int)).tdiv (v : Int) = (ft : Int) := by rw [Int.tdiv_eq_ediv_of_nonneg (by omega), ← hft]; simp
  have i0 : I64 0 := ⟨by omega, by omega⟩
  have ift : I64 (ft : Int) := ⟨by omega, by omega⟩
  have KF : Hid (∀ f : Int, (f = 0 ∨ f = (ft : Int)) → ∀ w, Ext W w → Calls Try.prog 17 #[.slice A c cap, .int .i64 f, .int .i64 (v : Int)] w (Ret (.bool true) w)) := hide (fun f hf => KR.out f v (by rcases hf with rfl | rfl; exact i0; exact ift) iv)
  have KG : Hid (∀ f : Int, 0 ≤ f → f < 50 → ∀ w, Ext W w → Calls Try.prog 17 #[.slice A c cap, .int .i64 f, .int .i64 (v : Int)] w (Ret (.bool true) w)) := hide (fun f h1 h2 => KR.out f v ⟨by omega, by omega⟩ iv)
  clear hft KR
  by_cases h0 : v = 0
  · have h00 : ¬ (0 < v) := by omega
    have KF := hide (KF.out 0 (Or.inl rfl))
    clear h0 ef
    have k1 := hide S4
    go_wp2_with (first
      | (go_at_call 11; (with_reducible refine (KK.out _).mono ?_); rintro e w5 ⟨rfl, hE5⟩; have S5 := hide (S4.out.ext hE5); have k6 := hide (KP2.out w5 S5.out.s.e); clear hE5)
      | (go_at_call 17; (with_reducible refine (k6.out).mono ?_); rintro e w6 ⟨rfl, hE6⟩; have S6 := hide (S5.out.ext hE6); have k7 := hide (KF.out w6 S6.out.s.e); clear hE6)
      | (go_at_call 17; (with_reducible refine (k7.out).mono ?_); rintro e w7 ⟨rfl, hE7⟩; have S7 := hide (S6.out.ext hE7); clear hE7)
      | (go_at_call 10; (with_reducible refine (KM2.out _).mono ?_); rintro e w8 ⟨z8, rfl, hz8, rfl⟩; have z8a := hz8.1; have z8b := hz8.2.1 (by omega); have k8 := hide (KG.out z8 z8a z8b _ S7.out.s.e); clear hz8)
      | (go_at_call 17; (with_reducible refine (k8.out).mono ?_); rintro e w9 ⟨rfl, hE9⟩; have S9 := hide (S7.out.ext hE9); have k9 := hide (KB.out (nm : Int) inm w9 S9.out); clear hE9)
      | (go_at_call 17; (with_reducible refine (k9.out).mono ?_); rintro e w10 ⟨rfl, hE10⟩; have S10 := hide (S9.out.ext hE10); have k10 := hide (KS.out w10 S10.out); clear hE10)
      | (go_at_call 18; (with_reducible refine (k10.out).mono ?_); rintro e w11 ⟨As, ns, caps, ls, rfl, hls, -, -, -, hbs, -, hT11, hU11⟩; have S11 := hide (S10.out.upd hU11 hT11); have k11 := hide (KQ.out As ns caps ls w11 hbs hls); clear hls hbs hT11 hU11)
      | (go_at_call 17; (with_reducible refine (k11.out).mono ?_); rintro e w12 ⟨rfl, hE12⟩; have S12 := hide (S11.out.ext hE12); have k12 := hide (KX.out w12 S12.out.s.t); clear hE12)
      | (go_at_call 13; (with_reducible refine (k12.out).mono ?_); rintro e w13 ⟨z13, rfl, hz13, hT13, hU13⟩; have S13 := hide (S12.out.upd hU13 hT13); have z13a := hz13.1; have z13b := hz13.2.1 (by omega); have i13 : I64 ((nm : Int) + z13 - 1) := ⟨by omega, by omega⟩; have k13 := hide (KB.out _ i13 w13 S13.out); clear hz13 hT13 hU13)
      | (go_at_call 17; (with_reducible refine (k13.out).mono ?_); rintro e w14 ⟨rfl, hE14⟩; have S14 := hide (S13.out.ext hE14); clear hE14))
    go_ret
    exact ⟨rfl, S14.out.s.e⟩
  · have h00 : 0 < v := by omega
    have KF := hide (KF.out (ft : Int) (Or.inr rfl))
    have k1 := hide S4
    go_wp2_with (first
      | (go_at_call 11; (with_reducible refine (KK.out _).mono ?_); rintro e w5 ⟨rfl, hE5⟩; have S5 := hide (S4.out.ext hE5); have k6 := hide (KP2.out w5 S5.out.s.e); clear hE5)
      | (go_at_call 17; (with_reducible refine (k6.out).mono ?_); rintro e w6 ⟨rfl, hE6⟩; have S6 := hide (S5.out.ext hE6); have k7 := hide (KF.out w6 S6.out.s.e); clear hE6)
      | (go_at_call 17; (with_reducible refine (k7.out).mono ?_); rintro e w7 ⟨rfl, hE7⟩; have S7 := hide (S6.out.ext hE7); clear hE7)
      | (go_at_call 10; (with_reducible refine (KM2.out _).mono ?_); rintro e w8 ⟨z8, rfl, hz8, rfl⟩; have z8a := hz8.1; have z8b := hz8.2.1 (by omega); have k8 := hide (KG.out z8 z8a z8b _ S7.out.s.e); clear hz8)
      | (go_at_call 17; (with_reducible refine (k8.out).mono ?_); rintro e w9 ⟨rfl, hE9⟩; have S9 := hide (S7.out.ext hE9); have k9 := hide (KB.out (nm : Int) inm w9 S9.out); clear hE9)
      | (go_at_call 17; (with_reducible refine (k9.out).mono ?_); rintro e w10 ⟨rfl, hE10⟩; have S10 := hide (S9.out.ext hE10); have k10 := hide (KS.out w10 S10.out); clear hE10)
      | (go_at_call 18; (with_reducible refine (k10.out).mono ?_); rintro e w11 ⟨As, ns, caps, ls, rfl, hls, -, -, -, hbs, -, hT11, hU11⟩; have S11 := hide (S10.out.upd hU11 hT11); have k11 := hide (KQ.out As ns caps ls w11 hbs hls); clear hls hbs hT11 hU11)
      | (go_at_call 17; (with_reducible refine (k11.out).mono ?_); rintro e w12 ⟨rfl, hE12⟩; have S12 := hide (S11.out.ext hE12); have k12 := hide (KX.out w12 S12.out.s.t); clear hE12)
      | (go_at_call 13; (with_reducible refine (k12.out).mono ?_); rintro e w13 ⟨z13, rfl, hz13, hT13, hU13⟩; have S13 := hide (S12.out.upd hU13 hT13); have z13a := hz13.1; have z13b := hz13.2.1 (by omega); have i13 : I64 ((nm : Int) + z13 - 1) := ⟨by omega, by omega⟩; have k13 := hide (KB.out _ i13 w13 S13.out); clear hz13 hT13 hU13)
      | (go_at_call 17; (with_reducible refine (k13.out).mono ?_); rintro e w14 ⟨rfl, hE14⟩; have S14 := hide (S13.out.ext hE14); clear hE14))
    go_ret
    exact ⟨rfl, S14.out.s.e⟩
end Go.Proofs.Ytkebfepkepnlkaa
