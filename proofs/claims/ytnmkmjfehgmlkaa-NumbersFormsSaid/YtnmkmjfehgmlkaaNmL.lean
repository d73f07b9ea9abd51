/- Layer 9's laws: what is encoded is read back; the list of numbers, what is compared, the sanity check. Conditions: the slices read as bytes and numbers. -/
import Derived.Test.YtnmkmjfehgmlkaaNmb1
import Derived.Test.YtnmkmjfehgmlkaaVarR
import Derived.Test.YtnmkmjfehgmlkaaBpk2
namespace Go.Proofs.Ytnmkmjfehgmlkaa
set_option linter.unusedVariables false
set_option linter.unusedSimpArgs false
open Go Go.RowKit
theorem rdA_enc : ∀ (l pre acc post : List Nat), IsQ l → rdA (pre ++ encV l ++ post) acc l.length (pre.length : Int) = (acc ++ l, ((pre.length + (encV l).length : Nat) : Int), 0)
  | [], pre, acc, post, _ => by simp [rdA, encV]
  | x :: l, pre, acc, post, hq => by
    have hx : x < 18446744073709551616 := hq x (List.mem_cons_self ..)
    have e : pre ++ encV (x :: l) ++ post = pre ++ encB x ++ (encV l ++ post) := by rw [encV_cons]; simp
    have h := rdV_enc pre (encV l ++ post) x hx
    have ih := rdA_enc l (pre ++ encB x) (acc ++ [x]) post (fun y hy => hq y (List.mem_cons_of_mem _ hy))
    rw [List.length_append, List.append_assoc (pre ++ encB x)] at ih
    rw [e, List.length_cons, rdA, h, if_pos rfl]
    simp only [Int.toNat_natCast]
    rw [show (pre.length : Int) + ((encB x).length : Int) = ((pre.length + (encB x).length : Nat) : Int) by omega, ih, encV_cons, List.length_append, Nat.add_assoc]
    simp
theorem getD_mid (pre post : List Nat) (x : Nat) (a : Nat) (ha : pre.length = a) : (pre ++ x :: post).getD a 0 = x := by
  subst ha
  simp [List.getD_eq_getElem?_getD]
theorem rdN_enc (l pre post : List Nat) (hq : IsQ l) (hn : l.length ≤ 65536) : rdN (pre ++ (enN l).1 ++ post) pre.length l.length = (l, ((pre.length + (enN l).1.length : Nat) : Int), 0) := by
  unfold enN
  rw [if_neg (by omega)]
  split
  · have hp := pkR_wdt hq hn
    obtain ⟨q, hqq⟩ : ∃ q, upN (pkN l (wdt l)) (pkS l) 8 = q := ⟨_, rfl⟩
    have hql : q.length = pkS l := by rw [← hqq, upN_len]
    rw [hqq] at hp
    rw [hqq]
    have hu := upR_pk hq hp
    have hw := wdt_le hq
    have e0 : (pre ++ (1 :: wdt l :: q) ++ post) = pre ++ 1 :: (wdt l :: q ++ post) := by simp
    have e1 : (pre ++ (1 :: wdt l :: q) ++ post) = (pre ++ [1]) ++ wdt l :: (q ++ post) := by simp
    have e2 : (pre ++ (1 :: wdt l :: q) ++ post) = (pre ++ [1, wdt l]) ++ (q ++ post) := by simp
    unfold rdN
    have g0 : (pre ++ (1 :: wdt l :: q) ++ post).getD pre.length 0 = 1 := by rw [e0]; exact getD_mid _ _ _ _ rfl
    have g1 : (pre ++ (1 :: wdt l :: q) ++ post).getD (pre.length + 1) 0 = wdt l := by rw [e1]; exact getD_mid _ _ _ _ (by simp)
    have d2 : (pre ++ (1 :: wdt l :: q) ++ post).drop (pre.length + 1 + 1) = q ++ post := by rw [e2]; exact List.drop_left' (by simp)
    have hlen : (pre ++ (1 :: wdt l :: q) ++ post).length = pre.length + 2 + q.length + post.length := by simp; omega
    rw [g0, if_neg (by omega), if_pos rfl]
    unfold rdK
    have hS : (l.length * wdt l + 7) / 8 = q.length := by rw [hql]; rfl
    rw [g1, d2, hlen, if_neg (by omega), if_neg (by omega), hS, if_neg (by omega), List.take_left' rfl, hu]
    simp only [List.length_cons]
    congr 2
    omega
  · unfold rdN
    have e0 : (pre ++ (0 :: encV l) ++ post) = pre ++ 0 :: (encV l ++ post) := by simp
    have e1 : (pre ++ (0 :: encV l) ++ post) = (pre ++ [0]) ++ encV l ++ post := by simp
    have g0 : (pre ++ (0 :: encV l) ++ post).getD pre.length 0 = 0 := by rw [e0]; exact getD_mid _ _ _ _ rfl
    rw [g0, if_pos rfl, e1]
    have := rdA_enc l (pre ++ [0]) [] post hq
    rw [List.length_append, List.length_singleton] at this
    rw [show (pre.length : Int) + 1 = ((pre.length + 1 : Nat) : Int) by omega, this]
    simp only [List.length_cons, List.nil_append]
    congr 2
    omega
/-- What is encoded is read back. -/
theorem deN_enc (l pre post : List Nat) (hq : IsQ l) (hn : l.length ≤ 65536) : deN (pre ++ (enN l).1 ++ post) pre.length l.length = (l, (pre.length : Int) + ((enN l).1.length : Int), 0) := by
  have h1 := (enN_len hq hn).1
  rw [deN_in (by rw [List.length_append, List.length_append]; omega) hn (rdN_enc l pre post hq hn), if_neg (by omega), if_pos ?_, Int.natCast_add]
  rw [Int.toNat_natCast, Nat.add_sub_cancel_left, List.append_assoc, List.drop_left, List.take_left' rfl]
theorem known_enc : enN [1, 1, 1, 1, 1, 1, 1, 1, 1] = ([1, 1, 255, 1], 0) := by
  have e : encV [1, 1, 1, 1, 1, 1, 1, 1, 1] = [1, 1, 1, 1, 1, 1, 1, 1, 1] := by simp [encV, encB_small]
  unfold enN
  rw [e]
  decide +kernel
theorem known_e300 : enN [300] = ([0, 172, 2], 0) := by
  have e : encV [300] = [172, 2] := by simp [encV, encB_small, encB_big]
  unfold enN
  rw [e]
  decide +kernel
theorem known_de : deN [0, 172, 2] 0 1 = ([300], 3, 0) := by
  have := deN_enc [300] [] [] (by intro x hx; simp at hx; omega) (by simp)
  rw [known_e300] at this
  simpa using this
/-- The numbers that the tape gives: owned. -/
def ListPost9 (B b : Nat) (W : World) (e : Ending) (w' : World) : Prop := ∃ A n cap l, e = .returned (.slice A n cap) ∧ l.length = n ∧ n ≤ 24 ∧ n ≤ cap ∧ OwnQ W.heap.size w' (.slice A n cap) l ∧ TapeOk B w' b ∧ Upd b W w'
set_option maxHeartbeats 1600000 in
set_option maxRecDepth 100000 in
theorem l_list9 (B b : Nat) (W : World) (hT : TapeOk B W b) : Calls Try.prog 8 #[.pointer (some ⟨b, 0, none⟩)] W (ListPost9 B b W) := by
  have hbW := hT.2.1
  have i65 : I64 65 := ⟨by omega, by omega⟩
  have i25 : I64 25 := ⟨by omega, by omega⟩
  have i64 : I64 64 := ⟨by omega, by omega⟩
  have HT := hide hT
  clear hT
  go_enter Try.func8, Try.ntmps8
  go_wp2_with (first
    | (go_at_call 16; (with_reducible refine (t_next B b 65 _ i65 HT.out).mono ?_); rintro e w1 ⟨s, rfl, hs, T1, u1⟩; obtain ⟨sh, rfl⟩ := Int.eq_ofNat_of_zero_le hs.1; have hs64 : sh ≤ 64 := (by have := hs.2.1 (by omega); omega); have T1 := hide T1; have U1 := hide u1; clear hs u1)
    | (go_at_call 16; (with_reducible refine (t_next B b 25 _ i25 T1.out).mono ?_); rintro e w2 ⟨s, rfl, hs, T2, u2⟩; obtain ⟨nn, rfl⟩ := Int.eq_ofNat_of_zero_le hs.1; have hn24 : nn ≤ 24 := (by have := hs.2.1 (by omega); omega); have U2 := hide (U1.out.trans u2); have T2 := hide T2; clear hs u2 U1 T1))
  go_loopw [3, 5] (fun lv iv wr => ∃ (i : Nat) (ll : List Nat), iv = .int .i64 (i : Int) ∧ ll.length + i ≤ 24 ∧ Hid (OwnQ W.heap.size wr lv ll) ∧ Hid (TapeOk B wr b) ∧ Hid (Upd b W wr)) (fun _ iv _ => (intOf iv).toNat)
  case atStart => exact ⟨nn, [], rfl, by simp; omega, hide (OwnQ.nil_ _ _), T2, U2⟩
  case round =>
    clear T2 U2 HT
    obtain ⟨i, ll, rfl, hli, HO, HT, HU⟩ := hrel
    by_cases h0 : 0 < i
    · have d0 : decide ((0 : Int) < (i : Int)) = true := decide_eq_true (by omega)
      go_upto_if 21 with (first
        | (go_at_call 25; (with_reducible refine (t_word B b _ HT.out).mono ?_); rintro e w3 ⟨u, rfl, hu, T3, u3⟩; obtain ⟨x, rfl⟩ := Int.eq_ofNat_of_zero_le hu.1; have hx : x < 18446744073709551616 := (by have := hu.2; omega); have e1 := shr_cast x sh; have hq : x >>> sh < 18446744073709551616 := Nat.lt_of_le_of_lt (by rw [Nat.shiftRight_eq_div_pow]; exact Nat.div_le_self _ _) hx; obtain ⟨q, hqq⟩ : ∃ q, x >>> sh = q := ⟨_, rfl⟩; rw [hqq] at e1 hq; have T3 := hide T3; have U3 := hide u3; clear hu u3 hqq hx)
        | (go_at_call 26; (with_reducible refine (t_bool B b 3 _ _ (by omega) (by omega) T3.out (Upd.refl _ _)).mono ?_); rintro e w4 ⟨v, rfl, T4, u4⟩; have U4 := hide (U3.out.trans u4); have T4 := hide T4; clear u4 U3 T3))
      cases v with
      | true =>
        go_wp2_with (first
          | (go_at_call 16; (with_reducible refine (t_next B b 64 _ i64 T4.out).mono ?_); rintro e w5 ⟨s, rfl, hs, T5, u5⟩; obtain ⟨sk, rfl⟩ := Int.eq_ofNat_of_zero_le hs.1; have hs64 : sk ≤ 64 := (by have := hs.2.1 (by omega); omega); have e2 := shr_cast q sk; have hr : q >>> sk < 18446744073709551616 := Nat.lt_of_le_of_lt (by rw [Nat.shiftRight_eq_div_pow]; exact Nat.div_le_self _ _) hq; obtain ⟨r, hrr⟩ : ∃ r, q >>> sk = r := ⟨_, rfl⟩; rw [hrr] at e2 hr; have U5a := U4.out.trans u5; have O5 := hide ((HO.out.upd U5a hbW).alloc (.cells #[Value.int .u64 (r : Int)] 36)); have hone := hide (one_atQ w5 r hr _ rfl); have T5 := hide (T5.alloc (.cells #[Value.int .u64 (r : Int)] 36)); have U5 := hide ((HU.out.trans U5a).trans (Ext.upd (ext_alloc w5 (.cells #[Value.int .u64 (r : Int)] 36)) b)); have hsz : W.heap.size ≤ (w5.alloc (.cells #[Value.int .u64 (r : Int)] 36)).heap.size := U5.out.2.2.2.1; have hle5 : ll.length + [r].length ≤ 17592186044416 := (by simp; omega); clear hs u5 U4 T4 U5a hrr)
          | (at_builtin; refine wl_append64 rfl (.tmp 27) (.tmp 29) rfl W.heap.size _ ll [r] rfl O5.out _ 1 1 rfl hone.out rfl hle5 hsz ?_; intro v6 w6 hO6 hG6 hA6))
        have hG := O5.out.1.lt
        have O6 := hide hO6
        have T6 := hide (T5.out.below (grown_below hG6 (b + 1) (by omega) (fun k hk => by have := (hG k hk).1; omega)))
        have U6 := hide (upd_grown U5.out hG6 (fun k hk => (hG k hk).1))
        clear hO6 hG6 hA6 hG O5 T5 U5 hone
        go_roundw
        case rel => exact ⟨i - 1, ll ++ [r], by go_num, by simp; omega, O6, T6, U6⟩
        case measure => simp [intOf]; omega
      | false =>
        have T4 := T4.out
        have U4 := U4.out
        have O5 := hide ((HO.out.upd U4 hbW).alloc (.cells #[Value.int .u64 (q : Int)] 36))
        have hone := hide (one_atQ w4 q hq _ rfl)
        have T5 := hide (T4.alloc (.cells #[Value.int .u64 (q : Int)] 36))
        have U5 := hide ((HU.out.trans U4).trans (Ext.upd (ext_alloc w4 (.cells #[Value.int .u64 (q : Int)] 36)) b))
        have hsz : W.heap.size ≤ (w4.alloc (.cells #[Value.int .u64 (q : Int)] 36)).heap.size := U5.out.2.2.2.1
        have hle5 : ll.length + [q].length ≤ 17592186044416 := (by simp; omega)
        clear T4 U4
        go_wp2_with (at_builtin; refine wl_append64 rfl (.tmp 27) (.tmp 29) rfl W.heap.size _ ll [q] rfl O5.out _ 1 1 rfl hone.out rfl hle5 hsz ?_; intro v6 w6 hO6 hG6 hA6)
        have hG := O5.out.1.lt
        have O6 := hide hO6
        have T6 := hide (T5.out.below (grown_below hG6 (b + 1) (by omega) (fun k hk => by have := (hG k hk).1; omega)))
        have U6 := hide (upd_grown U5.out hG6 (fun k hk => (hG k hk).1))
        clear hO6 hG6 hA6 hG O5 T5 U5 hone
        go_roundw
        case rel => exact ⟨i - 1, ll ++ [q], by go_num, by simp; omega, O6, T6, U6⟩
        case measure => simp [intOf]; omega
    · have d0 : decide ((0 : Int) < (i : Int)) = false := decide_eq_false (by omega)
      go_wp2_with fail
      go_ret
      obtain ⟨A, cap, hv, h1, h2, h3⟩ := HO.out.at_
      have hO := HO.out
      subst hv
      exact ⟨A, _, cap, ll, rfl, rfl, by omega, h1, hO, HT.out, HU.out⟩
set_option maxRecDepth 100000 in
set_option maxHeartbeats 1600000 in
theorem l_reads9 (A : Option Addr) (c cap : Nat) (b : List Nat) (at_ n : Int) (W : World) (hb : BytesAt W A b) (hc : b.length = c) (hcap : c ≤ cap) (hcap2 : c ≤ 4611686018427387904) (hat : I64 at_) (hn : I64 n) :
    Calls Try.prog 19 #[.slice A c cap, .int .i64 at_, .int .i64 n] W (Ret (.bool true) W) := by
  obtain ⟨L, nx, e1, hR⟩ : ∃ L nx e1, deN b at_ n = (L, nx, e1) := ⟨_, _, _, rfl⟩
  obtain ⟨m, hm⟩ : ∃ m, L.length = m := ⟨_, rfl⟩
  have K1 : Hid (Calls Try.prog 21 #[.slice A c cap, .int .i64 at_, .int .i64 n] W fun e w' => ∃ A3 c3, e = .returned (.tuple #[.slice A3 m c3, .int .i64 nx, .int .i64 e1]) ∧ WordsAt w' A3 L ∧ Ext W w') := hide ((p_deN A c cap b at_ n W hb hc hcap hcap2 hat hn _ hR).mono fun e w' h => by
    obtain ⟨A3, c3, rfl, _, _, _, hw, hE⟩ := h.parts
    exact ⟨A3, c3, by rw [hm], hw, hE⟩)
  have K2 : Hid (∀ w, Ext W w → Calls Try.prog 32 #[.slice A c cap, .int .i64 at_, .int .i64 n] w fun e w' => ∃ A3 c3, e = .returned (.tuple #[.slice A3 m c3, .int .i64 nx, .int .i64 e1]) ∧ WordsAt w' A3 L ∧ Ext w w') := hide (fun w hE => (r_deN A c cap b at_ n w (hb.ext hE) hc hcap hcap2 hat hn _ hR).mono fun e w' h => by
    obtain ⟨A3, c3, rfl, _, _, _, hw, hE⟩ := h.parts
    exact ⟨A3, c3, by rw [hm], hw, hE⟩)
  have K3 : Hid (∀ A1 c1 A2 c2 w, WordsAt w A1 L → WordsAt w A2 L → Calls Try.prog 22 #[.slice A1 m c1, .slice A2 m c2] w (Ret (.bool true) w)) := hide (fun A1 c1 A2 c2 w h1 h2 => q_same A1 A2 m m c1 c2 L L w h1 h2 hm hm true (by simp))
  have de : (e1 == e1) = true := by simp
  have dn : (nx == nx) = true := by simp
  clear hb hc hR hm
  go_enter Try.func19, Try.ntmps19
  go_wp2_with (first
    | (go_at_call 21; (with_reducible refine (K1.out).mono ?_); rintro e w1 ⟨A1, c1, rfl, hb1, hE1⟩; have k2 := hide (K2.out w1 hE1); have b1 := hide hb1; have E1 := hide hE1; clear hb1 hE1)
    | (go_at_call 32; (with_reducible refine (k2.out).mono ?_); rintro e w2 ⟨A2, c2, rfl, hb2, hE2⟩; have E2 := hide (Ext.trans E1.out hE2); have k3 := hide (K3.out A1 c1 A2 c2 w2 (b1.out.ext hE2) hb2); clear hb2 hE2 b1)
    | (go_at_call 22; (with_reducible refine (k3.out).mono ?_); rintro e w3 ⟨rfl, hE3⟩; have E3 := hide (Ext.trans E2.out hE3); clear hE3))
  go_ret
  exact ⟨rfl, E3.out⟩
set_option maxRecDepth 100000 in
set_option maxHeartbeats 1600000 in
theorem l_known9 (W : World) : Calls Try.prog 13 #[] W (Ret (.bool true) W) := by
  have E0 := ext_alloc W (.cells #[.int .u64 1, .int .u64 1, .int .u64 1, .int .u64 1, .int .u64 1, .int .u64 1, .int .u64 1, .int .u64 1, .int .u64 1] 36)
  have H0 := new_atQ W [1, 1, 1, 1, 1, 1, 1, 1, 1] (by intro x hx; simp at hx; omega) (by simp) #[.int .u64 1, .int .u64 1, .int .u64 1, .int .u64 1, .int .u64 1, .int .u64 1, .int .u64 1, .int .u64 1, .int .u64 1] rfl
  obtain ⟨W1, hW1⟩ : ∃ W1, W.alloc (.cells #[.int .u64 1, .int .u64 1, .int .u64 1, .int .u64 1, .int .u64 1, .int .u64 1, .int .u64 1, .int .u64 1, .int .u64 1] 36) = W1 := ⟨_, rfl⟩
  rw [hW1] at E0 H0
  have i0 : I64 0 := ⟨by omega, by omega⟩
  have i1 : I64 1 := ⟨by omega, by omega⟩
  have K1 : Hid (Calls Try.prog 10 #[.slice (some ⟨W.heap.size, 0, none⟩) 9 9] W1 fun e w' => ∃ A cap, e = .returned (.tuple #[.slice A 4 cap, .int .i64 0]) ∧ BytesAt w' A [1, 1, 255, 1] ∧ Ext W1 w') := hide ((p_encN _ 9 9 [1, 1, 1, 1, 1, 1, 1, 1, 1] W1 H0 rfl).mono fun e w' h => by
    rw [known_enc] at h
    obtain ⟨A, cap, rfl, _, _, _, hb, hE⟩ := h.parts
    exact ⟨A, cap, rfl, hb, hE⟩)
  have Hn3 : Hid (∀ w : World, BytesAt (w.alloc (.cells #[.int .u8 0, .int .u8 172, .int .u8 2] 5)) (some ⟨w.heap.size, 0, none⟩) [0, 172, 2]) := hide (fun w => new_at w [0, 172, 2] (by intro x hx; simp at hx; omega) (by simp) _ rfl)
  have Hn4 : Hid (∀ w : World, BytesAt (w.alloc (.cells #[.int .u8 1, .int .u8 1, .int .u8 255, .int .u8 1] 5)) (some ⟨w.heap.size, 0, none⟩) [1, 1, 255, 1]) := hide (fun w => new_at w [1, 1, 255, 1] (by intro x hx; simp at hx; omega) (by simp) _ rfl)
  have K2 : Hid (∀ g w, BytesAt w (some ⟨g, 0, none⟩) [0, 172, 2] → Calls Try.prog 21 #[.slice (some ⟨g, 0, none⟩) 3 3, .int .i64 0, .int .i64 1] w fun e w' => ∃ g1 o1 cap, e = .returned (.tuple #[.slice (some ⟨g1, o1, none⟩) 1 cap, .int .i64 3, .int .i64 0]) ∧ WordsAt w' (some ⟨g1, o1, none⟩) [300] ∧ Ext w w') := hide (fun g w hw => (p_deN _ 3 3 [0, 172, 2] 0 1 w hw rfl (by omega) (by omega) i0 i1 _ known_de).mono fun e w' h => by
    obtain ⟨A, cap, rfl, _, _, _, hb, hE⟩ := h.parts
    obtain ⟨g1, o1, rfl, _, _⟩ := hb.2.2 (by simp)
    exact ⟨g1, o1, cap, rfl, hb, hE⟩)
  have K3 : Hid (∀ A1 c1 A2 c2 w, BytesAt w A1 [1, 1, 255, 1] → BytesAt w A2 [1, 1, 255, 1] → Calls Try.prog 12 #[.slice A1 4 c1, .slice A2 4 c2] w (Ret (.bool true) w)) := hide (fun A1 c1 A2 c2 w h1 h2 => r_same A1 A2 4 4 c1 c2 _ _ w h1 h2 rfl rfl true rfl)
  have HW1 := hide hW1
  have E0 := hide E0
  clear H0 hW1
  go_enter Try.func13, Try.ntmps13
  go_wp2_with (first
    | (go_at_call 10; rw [HW1.out]; (with_reducible refine (K1.out).mono ?_); rintro e w1 ⟨A1, c1, rfl, hb1, hE1⟩; have b1 := hide (hb1.ext (ext_alloc w1 (.cells #[.int .u8 0, .int .u8 172, .int .u8 2] 5))); have E1 := hide (Ext.trans E0.out (Ext.trans hE1 (ext_alloc w1 (.cells #[.int .u8 0, .int .u8 172, .int .u8 2] 5)))); have k2 := hide (K2.out _ _ (Hn3.out w1)); clear hb1 hE1)
    | (go_at_call 21; (with_reducible refine (k2.out).mono ?_); rintro e w2 ⟨g1, o1, c2, rfl, hb2, hE2⟩; have b3 := hide ((b1.out.ext hE2).ext (ext_alloc w2 (.cells #[.int .u8 1, .int .u8 1, .int .u8 255, .int .u8 1] 5))); have b2 := hide (hb2.ext (ext_alloc w2 (.cells #[.int .u8 1, .int .u8 1, .int .u8 255, .int .u8 1] 5))); have E2 := hide (Ext.trans E1.out (Ext.trans hE2 (ext_alloc w2 (.cells #[.int .u8 1, .int .u8 1, .int .u8 255, .int .u8 1] 5)))); have k3 := hide (K3.out A1 c1 _ 4 _ b3.out (Hn4.out w2)); clear hb2 hE2 b1)
    | (go_at_call 12; (with_reducible refine (k3.out).mono ?_); rintro e w3 ⟨rfl, hE3⟩; have b4 := b2.out.ext hE3; have c4 := (b4.2.2 (by simp)); have c5 : w3.cell? ⟨g1, o1, none⟩ = some (.int .u64 300) := (by obtain ⟨_, _, he, _, hc⟩ := c4; cases he; exact hc 0 (by simp)); have E3 := hide (Ext.trans E2.out hE3); clear hE3 b4 c4))
  go_ret
  exact ⟨rfl, E3.out⟩
end Go.Proofs.Ytnmkmjfehgmlkaa
