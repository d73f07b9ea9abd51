/- Layer 8's laws: the list of numbers, what is compared, the sanity check. Conditions: the slices read as bytes and numbers. -/
import Derived.Test.YtkebfepkepnlkaaBpE
import Derived.Test.YtkebfepkepnlkaaSamW
import Derived.Test.YtkebfepkepnlkaaSpoA
namespace Go.Proofs.Ytkebfepkepnlkaa
set_option linter.unusedVariables false
set_option linter.unusedSimpArgs false
open Go Go.RowKit
/-- The numbers that the tape gives: owned. -/
def ListPost (B b : Nat) (W : World) (e : Ending) (w' : World) : Prop := ∃ A n cap l, e = .returned (.slice A n cap) ∧ l.length = n ∧ n ≤ 29 ∧ n ≤ cap ∧ OwnQ W.heap.size w' (.slice A n cap) l ∧ TapeOk B w' b ∧ Upd b W w'
set_option maxHeartbeats 800000 in
set_option maxRecDepth 100000 in
theorem l_list (B b : Nat) (W : World) (hT : TapeOk B W b) : Calls Try.prog 8 #[.pointer (some ⟨b, 0, none⟩)] W (ListPost B b W) := by
  have hbW := hT.2.1
  have i65 : I64 65 := ⟨by omega, by omega⟩
  have i30 : I64 30 := ⟨by omega, by omega⟩
  have HT := hide hT
  clear hT
  go_enter Try.func8, Try.ntmps8
  go_wp2_with (first
    | (go_at_call 13; (with_reducible refine (t_next B b 65 _ i65 HT.out).mono ?_); rintro e w1 ⟨s, rfl, hs, T1, u1⟩; obtain ⟨sh, rfl⟩ := Int.eq_ofNat_of_zero_le hs.1; have hs64 : sh ≤ 64 := (by have := hs.2.1 (by omega); omega); have T1 := hide T1; have U1 := hide u1; clear hs u1)
    | (go_at_call 13; (with_reducible refine (t_next B b 30 _ i30 T1.out).mono ?_); rintro e w2 ⟨s, rfl, hs, T2, u2⟩; obtain ⟨nn, rfl⟩ := Int.eq_ofNat_of_zero_le hs.1; have hn29 : nn ≤ 29 := (by have := hs.2.1 (by omega); omega); have U2 := hide (U1.out.trans u2); have T2 := hide T2; clear hs u2 U1 T1))
  go_loopw [3, 5] (fun lv iv wr => ∃ (i : Nat) (ll : List Nat), iv = .int .i64 (i : Int) ∧ ll.length + i ≤ 29 ∧ Hid (OwnQ W.heap.size wr lv ll) ∧ Hid (TapeOk B wr b) ∧ Hid (Upd b W wr)) (fun _ iv _ => (intOf iv).toNat)
  case atStart => exact ⟨nn, [], rfl, by simp; omega, hide (OwnQ.nil_ _ _), T2, U2⟩
  case round =>
    clear T2 U2 HT
    obtain ⟨i, ll, rfl, hli, HO, HT, HU⟩ := hrel
    by_cases h0 : 0 < i
    · have d0 : decide ((0 : Int) < (i : Int)) = true := decide_eq_true (by omega)
      obtain ⟨v3, hv3⟩ : ∃ v3 : Value, v3 = v3 := ⟨.bool true, rfl⟩
      clear hv3 v3
      go_wp2_with (first
        | (go_at_call 24; (with_reducible refine (t_word B b _ HT.out).mono ?_); rintro e w3 ⟨u, rfl, hu, T3, u3⟩; obtain ⟨x, rfl⟩ := Int.eq_ofNat_of_zero_le hu.1; have hx : x < 18446744073709551616 := (by have := hu.2; omega); have e1 := shr_cast x sh; have hq : x >>> sh < 18446744073709551616 := Nat.lt_of_le_of_lt (by rw [Nat.shiftRight_eq_div_pow]; exact Nat.div_le_self _ _) hx; obtain ⟨q, hqq⟩ : ∃ q, x >>> sh = q := ⟨_, rfl⟩; rw [hqq] at e1 hq; have O3 := hide ((HO.out.upd u3 hbW).alloc (.cells #[Value.int .u64 (q : Int)] 48)); have U3 := hide ((HU.out.trans u3).trans (Ext.upd (ext_alloc w3 (.cells #[Value.int .u64 (q : Int)] 48)) b)); have hone := hide (one_atQ w3 q hq _ rfl); have T3 := hide (T3.alloc (.cells #[Value.int .u64 (q : Int)] 48)); have hsz : W.heap.size ≤ (w3.alloc (.cells #[Value.int .u64 (q : Int)] 48)).heap.size := U3.out.2.2.2.1; have hle : ll.length + [q].length ≤ 17592186044416 := (by simp; omega); clear hu u3 hqq hx)
        | (at_builtin; refine wl_append64 rfl (.tmp 15) (.tmp 20) rfl W.heap.size _ ll [q] rfl O3.out _ 1 1 rfl hone.out rfl hle hsz ?_; intro v6 w6 hO6 hG6 hA6))
      have hG := O3.out.1.lt
      have O6 := hide hO6
      have T6 := hide (T3.out.below (grown_below hG6 (b + 1) (by omega) (fun k hk => by have := (hG k hk).1; omega)))
      have U6 := hide (upd_grown U3.out hG6 (fun k hk => (hG k hk).1))
      clear hO6 hG6 hA6 hG O3 T3 U3 hone
      go_roundw
      case rel => exact ⟨i - 1, ll ++ [q], by go_num, by simp; omega, O6, T6, U6⟩
      case measure => simp [intOf]; omega
    · have d0 : decide ((0 : Int) < (i : Int)) = false := decide_eq_false (by omega)
      go_wp2_with fail
      go_ret
      obtain ⟨A, cap, hv, h1, h2, h3⟩ := HO.out.at_
      have hO := HO.out
      subst hv
      exact ⟨A, _, cap, ll, rfl, rfl, by omega, h1, hO, HT.out, HU.out⟩
/-- What PkPost says, by the slice's parts. -/
theorem PkPost.parts {o : Option (List Nat)} {W : World} {e : Ending} {w' : World} (h : PkPost o W e w') : ∃ A cap, e = .returned (.tuple #[.slice A (o.getD []).length cap, .bool o.isSome]) ∧ (o.getD []).length ≤ cap ∧ cap ≤ 9223372036854775807 ∧ OwnB W.heap.size w' (.slice A (o.getD []).length cap) (o.getD []) ∧ BytesAt w' A (o.getD []) ∧ Ext W w' := by
  obtain ⟨v, rfl, hO, hE⟩ := h
  obtain ⟨A, cap, rfl, h1, h2, h3⟩ := hO.at_
  exact ⟨A, cap, rfl, h1, h2, hO, h3, hE⟩
theorem UpPost.parts {o : Option (List Nat)} {W : World} {e : Ending} {w' : World} (h : UpPost o W e w') : ∃ A cap, e = .returned (.tuple #[.slice A (o.getD []).length cap, .bool o.isSome]) ∧ (o.getD []).length ≤ cap ∧ cap ≤ 9223372036854775807 ∧ OwnQ W.heap.size w' (.slice A (o.getD []).length cap) (o.getD []) ∧ WordsAt w' A (o.getD []) ∧ Ext W w' := by
  obtain ⟨v, rfl, hO, hE⟩ := h
  obtain ⟨A, cap, rfl, h1, h2, h3⟩ := hO.at_
  exact ⟨A, cap, rfl, h1, h2, hO, h3, hE⟩
set_option maxRecDepth 100000 in
set_option maxHeartbeats 1600000 in
theorem l_packs (A : Option Addr) (n c : Nat) (l : List Nat) (wd : Int) (W : World) (hl : WordsAt W A l) (hn : l.length = n) (hwd : I64 wd) :
    Calls Try.prog 12 #[.slice A n c, .int .i64 wd] W (Ret (.bool true) W) := by
  obtain ⟨o, ho⟩ : ∃ o, pkR l wd = o := ⟨_, rfl⟩
  obtain ⟨q, hq⟩ : ∃ q, o.getD [] = q := ⟨_, rfl⟩
  obtain ⟨m, hm⟩ : ∃ m, q.length = m := ⟨_, rfl⟩
  obtain ⟨ok, hok⟩ : ∃ ok, o.isSome = ok := ⟨_, rfl⟩
  have K1 : Hid (Calls Try.prog 20 #[.slice A n c, .int .i64 wd] W fun e w' => ∃ A cap, e = .returned (.tuple #[.slice A m cap, .bool ok]) ∧ BytesAt w' A q ∧ Ext W w') := hide ((p_pack A n c l wd W hl hn hwd).mono fun e w' h => by
    obtain ⟨A, cap, rfl, _, _, _, hb, hE⟩ := PkPost.parts h
    rw [ho, hq] at hb
    exact ⟨A, cap, by rw [ho, hq, hm, hok], hb, hE⟩)
  have K2 : Hid (∀ w, Ext W w → Calls Try.prog 16 #[.slice A n c, .int .i64 wd] w fun e w' => ∃ A cap, e = .returned (.tuple #[.slice A m cap, .bool ok]) ∧ BytesAt w' A q ∧ Ext w w') := hide (fun w hw => (r_pack A n c l wd w (hl.ext hw) hn hwd).mono fun e w' h => by
    obtain ⟨A, cap, rfl, _, _, _, hb, hE⟩ := PkPost.parts h
    rw [ho, hq] at hb
    exact ⟨A, cap, by rw [ho, hq, hm, hok], hb, hE⟩)
  have K3 : Hid (∀ A1 c1 A2 c2 w, BytesAt w A1 q → BytesAt w A2 q → Calls Try.prog 23 #[.slice A1 m c1, .slice A2 m c2] w (Ret (.bool true) w)) := hide (fun A1 c1 A2 c2 w h1 h2 => r_same A1 A2 m m c1 c2 q q w h1 h2 hm hm true (by simp))
  have K4 : Hid (∀ w, Ext W w → Calls Try.prog 19 #[.slice A n c] w (Ret (.int .i64 (wdt l : Int)) w)) := hide (fun w hw => p_wd A n c l w (hl.ext hw) hn)
  have K5 : Hid (∀ w, Ext W w → Calls Try.prog 9 #[.slice A n c] w (Ret (.int .i64 (wdt l : Int)) w)) := hide (fun w hw => r_wd A n c l w (hl.ext hw) hn)
  obtain ⟨u, hu⟩ : ∃ u, wdt l = u := ⟨_, rfl⟩
  rw [hu] at K4 K5
  have db : ((u : Int) == (u : Int)) = true := by simp
  clear hl hn hwd ho hq hm hok hu
  cases ok
  all_goals
    go_enter Try.func12, Try.ntmps12
    go_wp2_with (first
      | (go_at_call 20; (with_reducible refine (K1.out).mono ?_); rintro e w1 ⟨A1, c1, rfl, hb1, hE1⟩; have k2 := hide (K2.out w1 hE1); have b1 := hide hb1; have E1 := hide hE1; clear hb1 hE1)
      | (go_at_call 16; (with_reducible refine (k2.out).mono ?_); rintro e w2 ⟨A2, c2, rfl, hb2, hE2⟩; have E2 := hide (Ext.trans E1.out hE2); have k3 := hide (K3.out A1 c1 A2 c2 w2 (b1.out.ext hE2) hb2); clear hb2 hE2 b1)
      | (go_at_call 23; (with_reducible refine (k3.out).mono ?_); rintro e w3 ⟨rfl, hE3⟩; have E3 := hide (Ext.trans E2.out hE3); have k4 := hide (K4.out w3 E3.out); clear hE3)
      | (go_at_call 19; (with_reducible refine (k4.out).mono ?_); rintro e w4 ⟨rfl, hE4⟩; have E4 := hide (Ext.trans E3.out hE4); have k5 := hide (K5.out w4 E4.out); clear hE4)
      | (go_at_call 9; (with_reducible refine (k5.out).mono ?_); rintro e w5 ⟨rfl, hE5⟩; have E5 := hide (Ext.trans E4.out hE5); clear hE5))
    go_ret
    exact ⟨rfl, E5.out⟩
set_option maxRecDepth 100000 in
set_option maxHeartbeats 1600000 in
theorem l_unpacks (A : Option Addr) (c cap : Nat) (b : List Nat) (n wd : Int) (W : World) (hb : BytesAt W A b) (hc : b.length = c) (hn : I64 n) (hwd : I64 wd) :
    Calls Try.prog 17 #[.slice A c cap, .int .i64 n, .int .i64 wd] W (Ret (.bool true) W) := by
  obtain ⟨o, ho⟩ : ∃ o, upR b n wd = o := ⟨_, rfl⟩
  obtain ⟨q, hq⟩ : ∃ q, o.getD [] = q := ⟨_, rfl⟩
  obtain ⟨m, hm⟩ : ∃ m, q.length = m := ⟨_, rfl⟩
  obtain ⟨ok, hok⟩ : ∃ ok, o.isSome = ok := ⟨_, rfl⟩
  have K1 : Hid (Calls Try.prog 21 #[.slice A c cap, .int .i64 n, .int .i64 wd] W fun e w' => ∃ A cap, e = .returned (.tuple #[.slice A m cap, .bool ok]) ∧ WordsAt w' A q ∧ Ext W w') := hide ((p_unpack A c cap b n wd W hb hc hn hwd).mono fun e w' h => by
    obtain ⟨A, cap, rfl, _, _, _, hb, hE⟩ := UpPost.parts h
    rw [ho, hq] at hb
    exact ⟨A, cap, by rw [ho, hq, hm, hok], hb, hE⟩)
  have K2 : Hid (∀ w, Ext W w → Calls Try.prog 25 #[.slice A c cap, .int .i64 n, .int .i64 wd] w fun e w' => ∃ A cap, e = .returned (.tuple #[.slice A m cap, .bool ok]) ∧ WordsAt w' A q ∧ Ext w w') := hide (fun w hw => (r_unpack A c cap b n wd w (hb.ext hw) hc hn hwd).mono fun e w' h => by
    obtain ⟨A, cap, rfl, _, _, _, hb, hE⟩ := UpPost.parts h
    rw [ho, hq] at hb
    exact ⟨A, cap, by rw [ho, hq, hm, hok], hb, hE⟩)
  have K3 : Hid (∀ A1 c1 A2 c2 w, WordsAt w A1 q → WordsAt w A2 q → Calls Try.prog 22 #[.slice A1 m c1, .slice A2 m c2] w (Ret (.bool true) w)) := hide (fun A1 c1 A2 c2 w h1 h2 => q_same A1 A2 m m c1 c2 q q w h1 h2 hm hm true (by simp))
  clear hb hc hn hwd ho hq hm hok
  cases ok
  all_goals
    go_enter Try.func17, Try.ntmps17
    go_wp2_with (first
      | (go_at_call 21; (with_reducible refine (K1.out).mono ?_); rintro e w1 ⟨A1, c1, rfl, hb1, hE1⟩; have k2 := hide (K2.out w1 hE1); have b1 := hide hb1; have E1 := hide hE1; clear hb1 hE1)
      | (go_at_call 25; (with_reducible refine (k2.out).mono ?_); rintro e w2 ⟨A2, c2, rfl, hb2, hE2⟩; have E2 := hide (Ext.trans E1.out hE2); have k3 := hide (K3.out A1 c1 A2 c2 w2 (b1.out.ext hE2) hb2); clear hb2 hE2 b1)
      | (go_at_call 22; (with_reducible refine (k3.out).mono ?_); rintro e w3 ⟨rfl, hE3⟩; have E3 := hide (Ext.trans E2.out hE3); clear hE3))
    go_ret
    exact ⟨rfl, E3.out⟩
theorem known_pk : pkR [5, 2, 7] 3 = some [213, 1] := by decide +kernel
theorem known_up : upR [213, 1] 3 3 = some [5, 2, 7] := by decide +kernel
set_option maxRecDepth 100000 in
set_option maxHeartbeats 1600000 in
theorem l_known8 (W : World) : Calls Try.prog 11 #[] W (Ret (.bool true) W) := by
  have E0 := ext_alloc W (.cells #[.int .u64 5, .int .u64 2, .int .u64 7] 48)
  have H0 := new_atQ W [5, 2, 7] (by intro x hx; simp at hx; omega) (by simp) #[.int .u64 5, .int .u64 2, .int .u64 7] rfl
  obtain ⟨W1, hW1⟩ : ∃ W1, W.alloc (.cells #[.int .u64 5, .int .u64 2, .int .u64 7] 48) = W1 := ⟨_, rfl⟩
  rw [hW1] at E0 H0
  have i3 : I64 3 := ⟨by omega, by omega⟩
  have K1 : Hid (Calls Try.prog 20 #[.slice (some ⟨W.heap.size, 0, none⟩) 3 3, .int .i64 3] W1 fun e w' => ∃ A cap, e = .returned (.tuple #[.slice A 2 cap, .bool true]) ∧ BytesAt w' A [213, 1] ∧ Ext W1 w') := hide ((p_pack _ 3 3 [5, 2, 7] 3 W1 H0 rfl i3).mono fun e w' h => by
    rw [known_pk] at h
    obtain ⟨A, cap, rfl, _, _, _, hb, hE⟩ := PkPost.parts h
    exact ⟨A, cap, rfl, hb, hE⟩)
  have Hnew : Hid (∀ w : World, BytesAt (w.alloc (.cells #[.int .u8 213, .int .u8 1] 5)) (some ⟨w.heap.size, 0, none⟩) [213, 1]) := hide (fun w => new_at w [213, 1] (by intro x hx; simp at hx; omega) (by simp) _ rfl)
  have Hnew3 : Hid (∀ w : World, WordsAt (w.alloc (.cells #[.int .u64 5, .int .u64 2, .int .u64 7] 48)) (some ⟨w.heap.size, 0, none⟩) [5, 2, 7]) := hide (fun w => new_atQ w [5, 2, 7] (by intro x hx; simp at hx; omega) (by simp) _ rfl)
  have K2 : Hid (∀ g w, BytesAt w (some ⟨g, 0, none⟩) [213, 1] → Calls Try.prog 21 #[.slice (some ⟨g, 0, none⟩) 2 2, .int .i64 3, .int .i64 3] w fun e w' => ∃ A cap, e = .returned (.tuple #[.slice A 3 cap, .bool true]) ∧ WordsAt w' A [5, 2, 7] ∧ Ext w w') := hide (fun g w hw => (p_unpack _ 2 2 [213, 1] 3 3 w hw rfl i3 i3).mono fun e w' h => by
    rw [known_up] at h
    obtain ⟨A, cap, rfl, _, _, _, hb, hE⟩ := UpPost.parts h
    exact ⟨A, cap, rfl, hb, hE⟩)
  have K3 : Hid (∀ A1 c1 A2 c2 w, BytesAt w A1 [213, 1] → BytesAt w A2 [213, 1] → Calls Try.prog 23 #[.slice A1 2 c1, .slice A2 2 c2] w (Ret (.bool true) w)) := hide (fun A1 c1 A2 c2 w h1 h2 => r_same A1 A2 2 2 c1 c2 _ _ w h1 h2 rfl rfl true rfl)
  have K4 : Hid (∀ A1 c1 A2 c2 w, WordsAt w A1 [5, 2, 7] → WordsAt w A2 [5, 2, 7] → Calls Try.prog 22 #[.slice A1 3 c1, .slice A2 3 c2] w (Ret (.bool true) w)) := hide (fun A1 c1 A2 c2 w h1 h2 => q_same A1 A2 3 3 c1 c2 _ _ w h1 h2 rfl rfl true rfl)
  have HW1 := hide hW1
  have E0 := hide E0
  clear H0 hW1
  go_enter Try.func11, Try.ntmps11
  go_wp2_with (first
    | (go_at_call 20; rw [HW1.out]; (with_reducible refine (K1.out).mono ?_); rintro e w1 ⟨A1, c1, rfl, hb1, hE1⟩; have b1 := hide (hb1.ext (ext_alloc w1 (.cells #[.int .u8 213, .int .u8 1] 5))); have E1 := hide (Ext.trans E0.out (Ext.trans hE1 (ext_alloc w1 (.cells #[.int .u8 213, .int .u8 1] 5)))); have k2 := hide (K2.out _ _ (Hnew.out w1)); clear hb1 hE1)
    | (go_at_call 21; (with_reducible refine (k2.out).mono ?_); rintro e w2 ⟨A2, c2, rfl, hb2, hE2⟩; have b3 := hide ((b1.out.ext hE2).ext (ext_alloc w2 (.cells #[.int .u8 213, .int .u8 1] 5))); have b2 := hide (hb2.ext (ext_alloc w2 (.cells #[.int .u8 213, .int .u8 1] 5))); have E2 := hide (Ext.trans E1.out (Ext.trans hE2 (ext_alloc w2 (.cells #[.int .u8 213, .int .u8 1] 5)))); have k3 := hide (K3.out A1 c1 _ 2 _ b3.out (Hnew.out w2)); clear hb2 hE2 b1)
    | (go_at_call 23; (with_reducible refine (k3.out).mono ?_); rintro e w3 ⟨rfl, hE3⟩; have b4 := hide ((b2.out.ext hE3).ext (ext_alloc w3 (.cells #[.int .u64 5, .int .u64 2, .int .u64 7] 48))); have E3 := hide (Ext.trans E2.out (Ext.trans hE3 (ext_alloc w3 (.cells #[.int .u64 5, .int .u64 2, .int .u64 7] 48)))); have k4 := hide (K4.out A2 c2 _ 3 _ b4.out (Hnew3.out w3)); clear hE3)
    | (go_at_call 22; (with_reducible refine (k4.out).mono ?_); rintro e w4 ⟨rfl, hE4⟩; have E4 := hide (Ext.trans E3.out hE4); clear hE4))
  go_ret
  exact ⟨rfl, E4.out⟩
end Go.Proofs.Ytkebfepkepnlkaa
