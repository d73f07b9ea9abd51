/- Layer 8: BitpackBack. Conditions: the slice reads as numbers of the tape. -/
import Derived.Test.YtkebfepkepnlkaaLwBc
namespace Go.Proofs.Ytkebfepkepnlkaa
set_option linter.unusedVariables false
set_option linter.unusedSimpArgs false
open Go Go.RowKit
/-- A list that the tape gave: kept while other memory changes. -/
structure Bs (W : World) (B : Nat) (A : Option Addr) (n cap : Nat) (m : List Nat) (w : World) : Prop where
  e : Ext W w
  t : TapeOk W.heap.size w W.heap.size
  o : OwnQ B w (.slice A n cap) m
  gb : W.heap.size < B
section
variable {W : World} {B : Nat} {A : Option Addr} {n cap : Nat} {m : List Nat} {w w' : World}
theorem Bs.ext (s : Bs W B A n cap m w) (k : Ext w w') : Bs W B A n cap m w' := ⟨s.e.trans k, s.t.ext k, s.o.ext k, s.gb⟩
theorem Bs.upd (s : Bs W B A n cap m w) (u : Upd W.heap.size w w') (t : TapeOk W.heap.size w' W.heap.size) : Bs W B A n cap m w' := ⟨Upd.ext u s.e (Nat.le_refl _), t, s.o.upd u s.gb, s.gb⟩
theorem Bs.words (s : Bs W B A n cap m w) : WordsAt w A m := own_words s.o
theorem Bs.of {w1 : World} (h1 : Ext W w1) (hT : TapeOk W.heap.size w1 W.heap.size) {v : Value} (hs : v = .slice A n cap) (o : OwnQ w1.heap.size w v m) (t : TapeOk W.heap.size w W.heap.size) (u : Upd W.heap.size w1 w) : Bs W w1.heap.size A n cap m w := by
  subst hs
  exact ⟨Upd.ext u h1 (Nat.le_refl _), t, o, hT.2.1⟩
end
set_option maxRecDepth 100000 in
set_option maxHeartbeats 3200000 in
theorem law_bback (y : Option Addr) (len cap4 : Nat) (mo : Int) (W : World) (hL : IsList W y len cap4) (hmo : I64 mo) :
    Calls Try.prog 5 #[.slice y len cap4, .int .i64 mo] W (Ret (.bool true) W) := by
  have KN : Hid (Calls Try.prog 7 #[.slice y len cap4] W (NewPost W)) := t_new W y len cap4 hL
  have KL := hide (fun w h => l_list W.heap.size W.heap.size w h)
  have i5 : I64 5 := ⟨by omega, by omega⟩
  have KM := hide (fun w => t_modI mo 5 w hmo i5)
  have KK := hide (fun w => l_known8 w)
  clear hL
  go_enter Try.func5, Try.ntmps5
  go_upto_region 2 with (first
    | (go_at_call 7; (with_reducible refine (KN.out).mono ?_); rintro e w1 ⟨rfl, hT, hE⟩; have T1 := hide hT; have E1 := hide hE; have kl := hide (KL.out w1 hT); clear hT hE)
    | (go_at_call 8; (with_reducible refine (kl.out).mono ?_); rintro e w2 ⟨A, n, cap, m, rfl, hn, hn29, hncap, hO, hT2, hU2⟩; have S2 := hide (Bs.of E1.out T1.out rfl hO hT2 hU2); clear hO hT2 hU2 hncap))
  obtain ⟨B, hB⟩ : ∃ B, w1.heap.size = B := ⟨_, rfl⟩
  rw [hB] at S2
  have hq := S2.out.o.2
  obtain ⟨u, hu⟩ : ∃ u, wdt m = u := ⟨_, rfl⟩
  have hu64 : u ≤ 64 := by rw [← hu]; exact wdt_le hq
  have KW : Hid (Calls Try.prog 19 #[.slice A n cap] w2 (Ret (.int .i64 (u : Int)) w2)) := hide (by have := p_wd A n cap m w2 S2.out.words hn; rw [hu] at this; exact this)
  have Hu := hide hu
  have Hn := hide hn
  have Hq := hide hq
  clear hB KN KL kl T1 E1 hu hn hq
  go_upto_region 4 with (first
    | (go_at_call 19; (with_reducible refine (KW.out).mono ?_); rintro e w3 ⟨rfl, hE⟩; have S3 := hide (S2.out.ext hE); clear hE)
    | (go_at_call 10; (with_reducible refine (KM.out _).mono ?_); rintro e w1 ⟨z, rfl, hz, rfl⟩; obtain ⟨x, rfl⟩ := Int.eq_ofNat_of_zero_le hz.1; have hx5 : x < 5 := (by have := hz.2.1 (by omega); omega); clear hz))
  obtain ⟨g, hg⟩ : ∃ g, min 64 (u + x) = g := ⟨_, rfl⟩
  have em : min (64 : Int) ((u : Int) + (x : Int)) = (g : Int) := by omega
  have hug : u ≤ g := by omega
  have hg64 : g ≤ 64 := by omega
  rw [em]
  clear em hg KW
  obtain ⟨b, hp⟩ : ∃ b, pkR m (g : Int) = some b := by
    have := Hu.out
    have := Hn.out
    exact ⟨_, by unfold pkR; rw [if_neg (by omega)]⟩
  have hup := upR_pk Hq.out hp
  have hpb := pkR_b hp
  have hless : pkR m ((u : Int) - 1) = none := if_pos (by have := Hu.out; omega)
  obtain ⟨c, hc⟩ : ∃ c, b.length = c := ⟨_, rfl⟩
  have hsz : siz (n : Int) (g : Int) = (c : Int) := by rw [← hc, hpb.2.2.2.2, Hn.out]
  have ig : I64 (g : Int) := ⟨by omega, by omega⟩
  have i1 : I64 ((u : Int) - 1) := ⟨by omega, by omega⟩
  have ini : I64 (n : Int) := ⟨by omega, by omega⟩
  have KP : Hid (∀ w, Bs W B A n cap m w → Calls Try.prog 20 #[.slice A n cap, .int .i64 (g : Int)] w fun e w' => ∃ A2 c2, e = .returned (.tuple #[.slice A2 c c2, .bool true]) ∧ BytesAt w' A2 b ∧ Ext w w') := hide (fun w s => (p_pack A n cap m g w s.words Hn.out ig).mono fun e w' h => by
    rw [hp] at h
    obtain ⟨A, cap, rfl, _, _, _, hb, hE⟩ := PkPost.parts h
    rw [show (some b).getD [] = b from rfl] at hb
    exact ⟨A, cap, by rw [← hc]; rfl, hb, hE⟩)
  have KU : Hid (∀ A2 c2 w, BytesAt w A2 b → Calls Try.prog 21 #[.slice A2 c c2, .int .i64 (n : Int), .int .i64 (g : Int)] w fun e w' => ∃ A2 c2, e = .returned (.tuple #[.slice A2 n c2, .bool true]) ∧ WordsAt w' A2 m ∧ Ext w w') := hide (fun A2 c2 w h2 => (p_unpack A2 c c2 b n g w h2 hc ini ig).mono fun e w' h => by
    rw [← Hn.out, hup] at h
    obtain ⟨A, cap, rfl, _, _, _, hb, hE⟩ := UpPost.parts h
    rw [show (some m).getD [] = m from rfl] at hb
    exact ⟨A, cap, by rw [← Hn.out]; rfl, hb, hE⟩)
  have KP2 : Hid (∀ w, Bs W B A n cap m w → Calls Try.prog 20 #[.slice A n cap, .int .i64 ((u : Int) - 1)] w fun e w' => ∃ A2 c2, e = .returned (.tuple #[.slice A2 0 c2, .bool false]) ∧ Ext w w') := hide (fun w s => (p_pack A n cap m _ w s.words Hn.out i1).mono fun e w' h => by
    rw [hless] at h
    obtain ⟨A, cap, rfl, _, _, _, hb, hE⟩ := PkPost.parts h
    exact ⟨A, cap, rfl, hE⟩)
  have KS : Hid (∀ A2 c2 w, Bs W B A n cap m w → WordsAt w A2 m → Calls Try.prog 22 #[.slice A2 n c2, .slice A n cap] w (Ret (.bool true) w)) := hide (fun A2 c2 w s h2 => q_same A2 A n n c2 cap m m w h2 s.words Hn.out Hn.out true (by simp))
  have KZ : Hid (∀ w, Calls Try.prog 14 #[.int .i64 (n : Int), .int .i64 (g : Int)] w (RetSame (.int .i64 (c : Int)) w)) := hide (fun w => by
    have := p_siz (n : Int) (g : Int) w ini ig
    rw [hsz] at this
    exact this)
  have dc : ((c : Int) == (c : Int)) = true := by simp
  have k4 := hide (KP.out _ S3.out)
  clear hp hup hpb hless hc hsz
  go_wp2_with (first
    | (go_at_call 20; (with_reducible refine (k4.out).mono ?_); rintro e w4 ⟨A4, c4, rfl, hb4, hE4⟩; have S4 := hide (S3.out.ext hE4); have k5 := hide (KU.out A4 c4 w4 hb4); clear hb4 hE4)
    | (go_at_call 21; (with_reducible refine (k5.out).mono ?_); rintro e w5 ⟨A5, c5, rfl, hb5, hE5⟩; have S5 := hide (S4.out.ext hE5); have b5 := hide hb5; have k6 := hide (KP2.out w5 S5.out); clear hb5 hE5)
    | (go_at_call 20; (with_reducible refine (k6.out).mono ?_); rintro e w6 ⟨A6, c6, rfl, hE6⟩; have S6 := hide (S5.out.ext hE6); have b6 := hide (b5.out.ext hE6); clear hE6)
    | (go_at_call 11; (with_reducible refine (KK.out _).mono ?_); rintro e w7 ⟨rfl, hE7⟩; have S7 := hide (S6.out.ext hE7); have k8 := hide (KS.out A5 c5 w7 S7.out (b6.out.ext hE7)); clear hE7)
    | (go_at_call 22; (with_reducible refine (k8.out).mono ?_); rintro e w8 ⟨rfl, hE8⟩; have S8 := hide (S7.out.ext hE8); clear hE8)
    | (go_at_call 14; (with_reducible refine (KZ.out _).mono ?_); rintro e w9 ⟨rfl, rfl⟩))
  go_ret
  exact ⟨rfl, S8.out.e⟩
end Go.Proofs.Ytkebfepkepnlkaa
