/- Layer 10's laws: the tape's Times, the comparison of lists of times, what is compared, the sanity check. Conditions: the slices read as bytes and numbers. -/
import Derived.Test.YtjmigglibidbdaaTms1
import Derived.Test.YtjmigglibidbdaaTapI
import Derived.Test.YtjmigglibidbdaaSamA
import Derived.Test.YtjmigglibidbdaaTms2
namespace Go.Proofs.Ytjmigglibidbdaa
set_option linter.unusedVariables false
set_option linter.unusedSimpArgs false
open Go Go.RowKit
/-- Increasing times that the tape gives: owned. -/
def TimesPost (N B b : Nat) (W : World) (e : Ending) (w' : World) : Prop := ∃ A n cap l, e = .returned (.slice A n cap) ∧ l.length = n ∧ n ≤ N ∧ n ≤ cap ∧ cap ≤ 9223372036854775807 ∧ incB l = true ∧ OwnT W.heap.size w' (.slice A n cap) l ∧ TapeOk B w' b ∧ Upd b W w'
theorem shr_le {u q k : Nat} (hu : u < 18446744073709551616) (h : k ≤ q) : u >>> q ≤ 18446744073709551615 / 2 ^ k := by
  rw [Nat.shiftRight_eq_div_pow]
  exact Nat.le_trans (Nat.div_le_div_left (Nat.pow_le_pow_right (by omega) h) (Nat.two_pow_pos k)) (Nat.div_le_div_right (by omega))
theorem incB_init {l : List Int} {x : Int} (h : incB (l ++ [x]) = true) : incB l = true := by
  rw [incB_iff] at h ⊢
  intro i hi
  have := h i (by simp; omega)
  rwa [getD_appL [x] (by omega), getD_appL [x] (by omega)] at this
set_option maxHeartbeats 6400000 in
set_option maxRecDepth 100000 in
theorem t_times (N B b : Nat) (hN : N ≤ 1000) (W : World) (hT : TapeOk B W b) : Calls Try.prog 9 #[.pointer (some ⟨b, 0, none⟩), .int .i64 (N : Int)] W (TimesPost N B b W) := by
  have hbW := hT.2.1
  have i5 : I64 5 := ⟨by omega, by omega⟩
  have i50 : I64 50 := ⟨by omega, by omega⟩
  have i9 : I64 9 := ⟨by omega, by omega⟩
  have i3 : I64 3 := ⟨by omega, by omega⟩
  have i56 : I64 56 := ⟨by omega, by omega⟩
  have i8 : I64 8 := ⟨by omega, by omega⟩
  have iN : I64 ((N : Int) + 1) := ⟨by omega, by omega⟩
  have HT := hide hT
  clear hT
  go_enter Try.func9, Try.ntmps9
  go_upto_region 3 with (go_at_call 10; (with_reducible refine (t_next B b 5 _ i5 HT.out).mono ?_); rintro e w1 ⟨s, rfl, hs, T1, u1⟩; obtain ⟨kd, rfl⟩ := Int.eq_ofNat_of_zero_le hs.1; have hkd : kd < 5 := (by have := hs.2.1 (by omega); omega); have T1 := hide T1; have U1 := hide u1; clear hs u1)
  go_upto_region 4 with (go_at_call 20; (with_reducible refine (t_int B b W _ T1.out U1.out).mono ?_); rintro e w2 ⟨at0, rfl, ha, T2, u2⟩; have T2 := hide T2; have U2 := hide u2; clear u2 T1 U1)
  go_upto_region 5 with (go_at_call 10; (with_reducible refine (t_next B b 50 _ i50 T2.out).mono ?_); rintro e w3 ⟨s, rfl, hs, T3, u3⟩; obtain ⟨s0, rfl⟩ := Int.eq_ofNat_of_zero_le hs.1; have hs0 : s0 < 50 := (by have := hs.2.1 (by omega); omega); obtain ⟨st, hst⟩ : ∃ st, 1 + s0 = st := ⟨_, rfl⟩; have es : IntKind.u64.wrap ((1 : Int) + (s0 : Int)) = (st : Int) := (by rw [wrap_u64']; omega); have T3 := hide T3; have U3 := hide (U2.out.trans u3); clear hs u3 T2 U2)
  have hst1 : 1 ≤ st := by omega
  have hst2 : st ≤ 50 := by omega
  clear hst es
  go_upto_region 6 with (go_at_call 10; (with_reducible refine (t_next B b ((N : Int) + 1) _ iN T3.out).mono ?_); rintro e w4 ⟨s, rfl, hs, T4, u4⟩; obtain ⟨i0, rfl⟩ := Int.eq_ofNat_of_zero_le hs.1; have hi0 : i0 ≤ N := (by have := hs.2.1 (by omega); omega); have T4 := hide T4; have U4 := hide (U3.out.trans u4); clear hs u4 T3 U3)
  have HA0 := hide ha
  clear ha HT
  go_wp2_with fail
  go_loopw [5, 7, 9] (fun lv av iv wr => ∃ (i : Nat) (a : Int) (ll : List Int), iv = .int .i64 (i : Int) ∧ av = .int .i64 a ∧ ll.length + i ≤ N ∧ Hid (I64 a) ∧ Hid (incB (ll ++ [a]) = true) ∧ Hid (OwnT W.heap.size wr lv ll) ∧ Hid (TapeOk B wr b) ∧ Hid (Upd b W wr)) (fun _ _ iv _ => (intOf iv).toNat)
  case atStart => exact ⟨i0, at0, [], rfl, rfl, by simp; omega, HA0, hide (by simp [incB]), hide (OwnT.nil_ _ _), T4, U4⟩
  case round =>
    clear T4 U4 HA0
    obtain ⟨i, a, ll, rfl, rfl, hli, HA, HI, HO, HT, HU⟩ := hrel
    by_cases h0 : 0 < i
    · have d0 : decide ((0 : Int) < (i : Int)) = true := decide_eq_true (by omega)
      have O5 := hide (HO.out.alloc (.cells #[Value.int .i64 a] 2))
      have hone := hide (one_atT wr a HA.out _ rfl)
      have T5 := hide (HT.out.alloc (.cells #[Value.int .i64 a] 2))
      have U5 := hide (HU.out.trans (Ext.upd (ext_alloc wr (.cells #[Value.int .i64 a] 2)) b))
      have hsz : W.heap.size ≤ (wr.alloc (.cells #[Value.int .i64 a] 2)).heap.size := U5.out.2.2.2.1
      have hle5 : ll.length + [a].length ≤ 17592186044416 := (by simp; omega)
      clear HO HT HU
      go_upto_region 9 with (at_builtin; refine wl_appendT rfl (.tmp 27) (.tmp 29) rfl W.heap.size _ ll [a] rfl O5.out _ 1 1 rfl hone.out rfl hle5 hsz ?_; intro v6 w6 hO6 hG6 hA6; have hG := O5.out.1.lt; have O6 := hide hO6; have T6 := hide (T5.out.below (grown_below hG6 (b + 1) (by omega) (fun k hk => by have := (hG k hk).1; omega))); have U6 := hide (upd_grown U5.out hG6 (fun k hk => (hG k hk).1)); clear hO6 hG6 hA6 hG O5 T5 U5 hone hsz)
      have hal := HA.out
      unfold I64 at hal
      obtain ⟨mm, hmm⟩ : ∃ mm : Nat, (9223372036854775807 : Int) - a = (mm : Int) := ⟨(9223372036854775807 - a).toNat, by omega⟩
      have em : IntKind.u64.wrap (9223372036854775807 - IntKind.u64.wrap a) = (mm : Int) := by rw [wrap_u64', wrap_u64']; omega
      have KE : Hid (∀ d : Nat, d ≤ mm → wrap64 (IntKind.u64.wrap (IntKind.u64.wrap a + (d : Int))) = a + (d : Int)) := hide (fun d hd => by rw [wrap_u64', wrap_u64']; simp only [wrap64]; omega)
      have KI : Hid (∀ d : Nat, 1 ≤ d → d ≤ mm → I64 (a + (d : Int)) ∧ incB (ll ++ [a] ++ [a + (d : Int)]) = true) := hide (fun d h1 h2 => ⟨⟨by omega, by omega⟩, incB_snoc (i := ll.length) HI.out (by simp) (by rw [getD_end]; omega)⟩)
      have hl2 : (ll ++ [a]).length = ll.length + 1 := by simp
      clear hal hmm hle5
      obtain rfl | rfl | rfl | rfl | rfl : kd = 0 ∨ kd = 1 ∨ kd = 2 ∨ kd = 3 ∨ kd = 4 := by omega
      · go_upto_region 20 with fail
        by_cases hcm : mm < st
        · have dm : decide ((mm : Int) < (st : Int)) = true := decide_eq_true (by omega)
          have dm2 : decide (mm < st) = true := decide_eq_true hcm
          go_wp2_with fail
          go_ret
          obtain ⟨A, cap, hv, h1, h2, h3⟩ := O6.out.at_
          have hO := O6.out
          subst hv
          exact ⟨A, _, cap, ll ++ [a], rfl, rfl, by omega, h1, h2, HI.out, hO, T6.out, U6.out⟩
        · have dm : decide ((mm : Int) < (st : Int)) = false := decide_eq_false (by omega)
          have dm2 : decide (mm < st) = false := decide_eq_false hcm
          have ea := KE.out (st) (by omega)
          obtain ⟨ki, kj⟩ := KI.out (st) (by omega) (by omega)
          obtain ⟨y, hy⟩ : ∃ y, a + ((st : Nat) : Int) = y := ⟨_, rfl⟩
          rw [hy] at ea ki kj
          have ki := hide ki
          have kj := hide kj
          clear hy
          go_wp2_with fail
          go_roundw
          case rel => exact ⟨i - 1, y, ll ++ [a], by go_num, by go_num, by omega, ki, kj, O6, T6, U6⟩
          case measure => simp [intOf]; omega
      · go_upto_region 20 with (go_at_call 10; (with_reducible refine (t_next B b 9 _ i9 T6.out).mono ?_); rintro e w7 ⟨s, rfl, hs, T7, u7⟩; obtain ⟨x, rfl⟩ := Int.eq_ofNat_of_zero_le hs.1; have hx : x < 9 := (by have := hs.2.1 (by omega); omega); obtain ⟨d, hd⟩ : ∃ d, 1 + x = d := ⟨_, rfl⟩; have e1 : IntKind.u64.wrap ((1 : Int) + (x : Int)) = (d : Int) := (by rw [wrap_u64']; omega); have T7 := hide T7; have U7 := hide (U6.out.trans u7); have O7 := hide (O6.out.upd u7 hbW); clear hs u7 T6 U6 O6)
        have hd1 : 1 ≤ d := by omega
        clear e1 hd
        by_cases hcm : mm < d
        · have dm : decide ((mm : Int) < (d : Int)) = true := decide_eq_true (by omega)
          have dm2 : decide (mm < d) = true := decide_eq_true hcm
          go_wp2_with fail
          go_ret
          obtain ⟨A, cap, hv, h1, h2, h3⟩ := O7.out.at_
          have hO := O7.out
          subst hv
          exact ⟨A, _, cap, ll ++ [a], rfl, rfl, by omega, h1, h2, HI.out, hO, T7.out, U7.out⟩
        · have dm : decide ((mm : Int) < (d : Int)) = false := decide_eq_false (by omega)
          have dm2 : decide (mm < d) = false := decide_eq_false hcm
          have ea := KE.out (d) (by omega)
          obtain ⟨ki, kj⟩ := KI.out (d) (by omega) (by omega)
          obtain ⟨y, hy⟩ : ∃ y, a + ((d : Nat) : Int) = y := ⟨_, rfl⟩
          rw [hy] at ea ki kj
          have ki := hide ki
          have kj := hide kj
          clear hy
          go_wp2_with fail
          go_roundw
          case rel => (repeat apply Exists.intro); exact ⟨⟨i - 1, y, ll ++ [a], by go_num, by go_num, by omega, ki, kj, O7, T7, U7⟩, rfl⟩
          case measure => simp [intOf]; omega
      · go_upto_region 20 with (go_at_call 10; (with_reducible refine (t_next B b 3 _ i3 T6.out).mono ?_); rintro e w7 ⟨s, rfl, hs, T7, u7⟩; obtain ⟨x, rfl⟩ := Int.eq_ofNat_of_zero_le hs.1; have hx : x < 3 := (by have := hs.2.1 (by omega); omega); have e0 : IntKind.u64.wrap (x : Int) = (x : Int) := (by rw [wrap_u64']; omega); obtain ⟨d, hd⟩ : ∃ d, st + x = d := ⟨_, rfl⟩; have e1 : IntKind.u64.wrap ((st : Int) + (x : Int)) = (d : Int) := (by rw [wrap_u64']; omega); have T7 := hide T7; have U7 := hide (U6.out.trans u7); have O7 := hide (O6.out.upd u7 hbW); clear hs u7 T6 U6 O6)
        have hd1 : 1 ≤ d := by omega
        clear e0 e1 hd
        by_cases hcm : mm < d
        · have dm : decide ((mm : Int) < (d : Int)) = true := decide_eq_true (by omega)
          have dm2 : decide (mm < d) = true := decide_eq_true hcm
          go_wp2_with fail
          go_ret
          obtain ⟨A, cap, hv, h1, h2, h3⟩ := O7.out.at_
          have hO := O7.out
          subst hv
          exact ⟨A, _, cap, ll ++ [a], rfl, rfl, by omega, h1, h2, HI.out, hO, T7.out, U7.out⟩
        · have dm : decide ((mm : Int) < (d : Int)) = false := decide_eq_false (by omega)
          have dm2 : decide (mm < d) = false := decide_eq_false hcm
          have ea := KE.out (d) (by omega)
          obtain ⟨ki, kj⟩ := KI.out (d) (by omega) (by omega)
          obtain ⟨y, hy⟩ : ∃ y, a + ((d : Nat) : Int) = y := ⟨_, rfl⟩
          rw [hy] at ea ki kj
          have ki := hide ki
          have kj := hide kj
          clear hy
          go_wp2_with fail
          go_roundw
          case rel => (repeat apply Exists.intro); exact ⟨⟨i - 1, y, ll ++ [a], by go_num, by go_num, by omega, ki, kj, O7, T7, U7⟩, rfl⟩
          case measure => simp [intOf]; omega
      · go_upto_region 20 with (first | (go_at_call 23; (with_reducible refine (t_word B b _ T6.out).mono ?_); rintro e w7 ⟨u, rfl, hu, T7, u7⟩; obtain ⟨xw, rfl⟩ := Int.eq_ofNat_of_zero_le hu.1; have hxw : xw < 18446744073709551616 := (by have := hu.2; omega); have T7 := hide T7; have U7 := hide (U6.out.trans u7); have O7 := hide (O6.out.upd u7 hbW); clear hu u7 T6 U6 O6) | (go_at_call 10; (with_reducible refine (t_next B b 56 _ i56 T7.out).mono ?_); rintro e w8 ⟨s, rfl, hs, T8, u8⟩; obtain ⟨x, rfl⟩ := Int.eq_ofNat_of_zero_le hs.1; have hx : x < 56 := (by have := hs.2.1 (by omega); omega); obtain ⟨q, hq⟩ : ∃ q : Nat, 4 + x = q := ⟨_, rfl⟩; have eq1 : (4 : Int) + (x : Int) = (q : Int) := (by omega); have hr := shr_le (q := q) (k := 4) hxw (by omega); have e1 := shr_cast xw q; obtain ⟨r, hrr⟩ : ∃ r, xw >>> q = r := ⟨_, rfl⟩; rw [hrr] at e1 hr; have hr2 : r ≤ 9223372036854775807 := (Nat.le_trans hr (by decide)); obtain ⟨d, hd⟩ : ∃ d, 1 + r = d := ⟨_, rfl⟩; have e2 : IntKind.u64.wrap ((1 : Int) + (r : Int)) = (d : Int) := (by rw [wrap_u64']; omega); have hq2 : q ≤ 64 := (by omega); clear hq hr hrr; have T8 := hide T8; have U8 := hide (U7.out.trans u8); have O8 := hide (O7.out.upd u8 hbW); clear hs u8 T7 U7 O7))
        have hd1 : 1 ≤ d := by omega
        clear e1 e2 eq1 hd
        by_cases hcm : mm < d
        · have dm : decide ((mm : Int) < (d : Int)) = true := decide_eq_true (by omega)
          have dm2 : decide (mm < d) = true := decide_eq_true hcm
          go_wp2_with fail
          go_ret
          obtain ⟨A, cap, hv, h1, h2, h3⟩ := O8.out.at_
          have hO := O8.out
          subst hv
          exact ⟨A, _, cap, ll ++ [a], rfl, rfl, by omega, h1, h2, HI.out, hO, T8.out, U8.out⟩
        · have dm : decide ((mm : Int) < (d : Int)) = false := decide_eq_false (by omega)
          have dm2 : decide (mm < d) = false := decide_eq_false hcm
          have ea := KE.out (d) (by omega)
          obtain ⟨ki, kj⟩ := KI.out (d) (by omega) (by omega)
          obtain ⟨y, hy⟩ : ∃ y, a + ((d : Nat) : Int) = y := ⟨_, rfl⟩
          rw [hy] at ea ki kj
          have ki := hide ki
          have kj := hide kj
          clear hy
          go_wp2_with fail
          go_roundw
          case rel => (repeat apply Exists.intro); exact ⟨⟨i - 1, y, ll ++ [a], by go_num, by go_num, by omega, ki, kj, O8, T8, U8⟩, rfl⟩
          case measure => simp [intOf]; omega
      · go_upto_if 59 with (go_at_call 24; (with_reducible refine (t_bool B b 4 _ _ (by omega) (by omega) T6.out (Upd.refl _ _)).mono ?_); rintro e w7 ⟨v, rfl, T7, u7⟩; have T7 := hide T7; have U7 := hide (U6.out.trans u7); have O7 := hide (O6.out.upd u7 hbW); clear u7 T6 U6 O6)
        cases v with
        | false =>
          go_upto_region 20 with fail
          by_cases hcm : mm < st
          · have dm : decide ((mm : Int) < (st : Int)) = true := decide_eq_true (by omega)
            have dm2 : decide (mm < st) = true := decide_eq_true hcm
            go_wp2_with fail
            go_ret
            obtain ⟨A, cap, hv, h1, h2, h3⟩ := O7.out.at_
            have hO := O7.out
            subst hv
            exact ⟨A, _, cap, ll ++ [a], rfl, rfl, by omega, h1, h2, HI.out, hO, T7.out, U7.out⟩
          · have dm : decide ((mm : Int) < (st : Int)) = false := decide_eq_false (by omega)
            have dm2 : decide (mm < st) = false := decide_eq_false hcm
            have ea := KE.out (st) (by omega)
            obtain ⟨ki, kj⟩ := KI.out (st) (by omega) (by omega)
            obtain ⟨y, hy⟩ : ∃ y, a + ((st : Nat) : Int) = y := ⟨_, rfl⟩
            rw [hy] at ea ki kj
            have ki := hide ki
            have kj := hide kj
            clear hy
            go_wp2_with fail
            go_roundw
            case rel => (repeat apply Exists.intro); exact ⟨⟨i - 1, y, ll ++ [a], by go_num, by go_num, by omega, ki, kj, O7, T7, U7⟩, rfl⟩
            case measure => simp [intOf]; omega
        | true =>
          go_upto_region 20 with (first | (go_at_call 23; (with_reducible refine (t_word B b _ T7.out).mono ?_); rintro e w8 ⟨u, rfl, hu, T8, u8⟩; obtain ⟨xw, rfl⟩ := Int.eq_ofNat_of_zero_le hu.1; have hxw : xw < 18446744073709551616 := (by have := hu.2; omega); have T8 := hide T8; have U8 := hide (U7.out.trans u8); have O8 := hide (O7.out.upd u8 hbW); clear hu u8 T7 U7 O7) | (go_at_call 10; (with_reducible refine (t_next B b 8 _ i8 T8.out).mono ?_); rintro e w9 ⟨s, rfl, hs, T9, u9⟩; obtain ⟨x, rfl⟩ := Int.eq_ofNat_of_zero_le hs.1; have hx : x < 8 := (by have := hs.2.1 (by omega); omega); obtain ⟨q, hq⟩ : ∃ q : Nat, 1 + x = q := ⟨_, rfl⟩; have eq1 : (1 : Int) + (x : Int) = (q : Int) := (by omega); have hr := shr_le (q := q) (k := 1) hxw (by omega); have e1 := shr_cast xw q; obtain ⟨r, hrr⟩ : ∃ r, xw >>> q = r := ⟨_, rfl⟩; rw [hrr] at e1 hr; have hr2 : r ≤ 9223372036854775807 := (Nat.le_trans hr (by decide)); obtain ⟨d, hd⟩ : ∃ d, 1 + r = d := ⟨_, rfl⟩; have e2 : IntKind.u64.wrap ((1 : Int) + (r : Int)) = (d : Int) := (by rw [wrap_u64']; omega); have hq2 : q ≤ 64 := (by omega); clear hq hr hrr; have T9 := hide T9; have U9 := hide (U8.out.trans u9); have O9 := hide (O8.out.upd u9 hbW); clear hs u9 T8 U8 O8))
          have hd1 : 1 ≤ d := by omega
          clear e1 e2 eq1 hd
          by_cases hcm : mm < d
          · have dm : decide ((mm : Int) < (d : Int)) = true := decide_eq_true (by omega)
            have dm2 : decide (mm < d) = true := decide_eq_true hcm
            go_wp2_with fail
            go_ret
            obtain ⟨A, cap, hv, h1, h2, h3⟩ := O9.out.at_
            have hO := O9.out
            subst hv
            exact ⟨A, _, cap, ll ++ [a], rfl, rfl, by omega, h1, h2, HI.out, hO, T9.out, U9.out⟩
          · have dm : decide ((mm : Int) < (d : Int)) = false := decide_eq_false (by omega)
            have dm2 : decide (mm < d) = false := decide_eq_false hcm
            have ea := KE.out (d) (by omega)
            obtain ⟨ki, kj⟩ := KI.out (d) (by omega) (by omega)
            obtain ⟨y, hy⟩ : ∃ y, a + ((d : Nat) : Int) = y := ⟨_, rfl⟩
            rw [hy] at ea ki kj
            have ki := hide ki
            have kj := hide kj
            clear hy
            go_wp2_with fail
            go_roundw
            case rel => (repeat apply Exists.intro); exact ⟨⟨i - 1, y, ll ++ [a], by go_num, by go_num, by omega, ki, kj, O9, T9, U9⟩, rfl⟩
            case measure => simp [intOf]; omega
    · have d0 : decide ((0 : Int) < (i : Int)) = false := decide_eq_false (by omega)
      go_wp2_with fail
      go_ret
      obtain ⟨A, cap, hv, h1, h2, h3⟩ := HO.out.at_
      have hO := HO.out
      subst hv
      exact ⟨A, _, cap, ll, rfl, rfl, by omega, h1, h2, incB_init HI.out, hO, HT.out, HU.out⟩
theorem takeT_eq_succ {l m : List Int} {k : Nat} (h1 : k < l.length) (h2 : k < m.length) (h : l.take k = m.take k) : (l.take (k + 1) = m.take (k + 1)) ↔ l.getD k 0 = m.getD k 0 := by
  rw [takeT_succ h1, takeT_succ h2, h]
  simp
set_option maxRecDepth 100000 in
theorem t_same_ne (A A' : Option Addr) (n n' c c' : Nat) (W : World) (h : n ≠ n') (h1 : n ≤ 9223372036854775807) (h2 : n' ≤ 9223372036854775807) : Calls Try.prog 22 #[.slice A n c, .slice A' n' c'] W (Ret (.bool false) W) := by
  have hb : ((n : Int) != (n' : Int)) = true := by rw [bne_iff_ne]; omega
  have hb' : ¬ ((n : Int) = (n' : Int)) := by omega
  go_enter Try.func22, Try.ntmps22
  go_wp2_with fail
  go_ret
  exact ⟨rfl, Ext.refl _⟩
set_option maxHeartbeats 800000 in
set_option maxRecDepth 100000 in
theorem t_same_eq (A A' : Option Addr) (n c c' : Nat) (l m : List Int) (W : World) (hl : TimesAt W A l) (hm : TimesAt W A' m) (hn : l.length = n) (hn' : m.length = n) (v : Bool) (hv : decide (l = m) = v) :
    Calls Try.prog 22 #[.slice A n c, .slice A' n c'] W (Ret (.bool v) W) := by
  have hlen := hl.2.1
  rw [hn] at hlen
  have HL := hide hl
  have HM := hide hm
  have Hn := hide hn
  have Hn' := hide hn'
  have Hv := hide hv
  have hb : ((n : Int) != (n : Int)) = false := by simp
  clear hl hm hn hn' hv
  go_enter Try.func22, Try.ntmps22
  go_wp2_with fail
  go_loopw [5] (fun i wr => ∃ k : Nat, k ≤ n ∧ i = .int .i64 k ∧ Hid (Ext W wr) ∧ Hid (l.take k = m.take k)) (fun i _ => n - (intOf i).toNat)
  case atStart => exact ⟨0, by omega, rfl, hide (Ext.refl _), hide (by simp)⟩
  case round =>
    obtain ⟨k, hk, rfl, E, T⟩ := hrel
    by_cases hlt : k < n
    · have hkl : k < l.length := by rw [Hn.out]; exact hlt
      have hkm : k < m.length := by rw [Hn'.out]; exact hlt
      obtain ⟨b, off, rfl, hb1, hc1⟩ := (HL.out.ext E.out).2.2 (by omega)
      obtain ⟨b', off', rfl, hb2, hc2⟩ := (HM.out.ext E.out).2.2 (by omega)
      have d1 := hc1 k hkl
      have d2 := hc2 k hkm
      have hs := hide (takeT_eq_succ hkl hkm T.out)
      have hne : Hid (l.getD k 0 ≠ m.getD k 0 → l ≠ m) := fun h e => h (by rw [e])
      obtain ⟨x, hx⟩ : ∃ x, l.getD k 0 = x := ⟨_, rfl⟩
      obtain ⟨y, hy⟩ : ∃ y, m.getD k 0 = y := ⟨_, rfl⟩
      rw [hx] at d1 hs hne
      rw [hy] at d2 hs hne
      clear hc1 hc2 hx hy hkl hkm hb1 hb2
      by_cases hxy : x = y
      · have q : (x != y) = false := by subst hxy; simp
        have Hxy := hide hxy
        clear hxy
        go_wp2_with fail
        go_quiet (fail)
        go_wp2_with fail
        go_roundw
        case rel => exact ⟨k + 1, by omega, by go_num, hide (E.out.trans (ext_drewN _ _)), hide (hs.out.2 Hxy.out)⟩
        case measure => simp [intOf]; omega
      · have q : (x != y) = true := by rw [bne_iff_ne]; exact hxy
        go_wp2_with fail
        go_quiet (fail)
        go_wp2_with fail
        go_ret
        refine ⟨?_, E.out.trans (ext_drewN _ _)⟩
        have := hne.out hxy
        rw [← Hv.out, decide_eq_false this]
        rfl
    · obtain rfl : k = n := by omega
      go_wp2_with fail
      go_ret
      refine ⟨?_, E.out⟩
      have e : l = m := by
        have := T.out
        rw [List.take_of_length_le (by have := Hn.out; omega), List.take_of_length_le (by have := Hn'.out; omega)] at this
        exact this
      rw [← Hv.out, decide_eq_true e]
      rfl
theorem t_same (A A' : Option Addr) (n n' c c' : Nat) (l m : List Int) (W : World) (hl : TimesAt W A l) (hm : TimesAt W A' m) (hn : l.length = n) (hn' : m.length = n') (v : Bool) (hv : decide (l = m) = v) :
    Calls Try.prog 22 #[.slice A n c, .slice A' n' c'] W (Ret (.bool v) W) := by
  by_cases h : n = n'
  · subst h
    exact t_same_eq A A' n c c' l m W hl hm hn hn' v hv
  · have e : v = false := by
      rw [← hv, decide_eq_false]
      intro e; subst e; omega
    subst e
    exact t_same_ne A A' n n' c c' W h (by have := hl.2.1; omega) (by have := hm.2.1; omega)
theorem known_inc : incB [10, 20, 30, 40] = true := by decide +kernel
theorem known_cod : codL [10, 20, 30, 40] = [9, 0, 0] := by decide +kernel
theorem known_e900 : enN [9, 0, 0] = ([0, 9, 0, 0], 0) := by
  have e : encV [9, 0, 0] = [9, 0, 0] := by simp [encV, encB_small]
  unfold enN
  rw [e]
  decide +kernel
theorem known_enT : enT [10, 20, 30, 40] = ([0, 9, 0, 0], 0) := by
  rw [enT_of (by simp) known_inc, known_cod, known_e900]
theorem known_isT : IsT [10, 20, 30, 40] := by
  intro x hx
  simp at hx
  unfold I64
  omega
theorem known_deT : deT [0, 9, 0, 0] 0 10 4 = ([10, 20, 30, 40], 4, 0) := by
  have := deT_enc [10, 20, 30, 40] [] [] known_isT known_inc (by simp) (by simp)
  rw [known_enT] at this
  simpa using this
set_option maxRecDepth 100000 in
set_option maxHeartbeats 1600000 in
theorem l_reads10 (A : Option Addr) (c cap : Nat) (b : List Nat) (at_ f n : Int) (W : World) (hb : BytesAt W A b) (hc : b.length = c) (hcap : c ≤ cap) (hcap2 : c ≤ 4611686018427387904) (hat : I64 at_) (hf : I64 f) (hn : I64 n) :
    Calls Try.prog 18 #[.slice A c cap, .int .i64 at_, .int .i64 f, .int .i64 n] W (Ret (.bool true) W) := by
  obtain ⟨L, nx, e1, hR⟩ : ∃ L nx e1, deT b at_ f n = (L, nx, e1) := ⟨_, _, _, rfl⟩
  obtain ⟨m, hm⟩ : ∃ m, L.length = m := ⟨_, rfl⟩
  have K1 : Hid (Calls Try.prog 21 #[.slice A c cap, .int .i64 at_, .int .i64 f, .int .i64 n] W fun e w' => ∃ A3 c3, e = .returned (.tuple #[.slice A3 m c3, .int .i64 nx, .int .i64 e1]) ∧ TimesAt w' A3 L ∧ Ext W w') := hide ((p_deT A c cap b at_ f n W hb hc hcap hcap2 hat hf hn _ hR).mono fun e w' h => by
    obtain ⟨A3, c3, rfl, _, _, _, hw, hE⟩ := h.parts
    exact ⟨A3, c3, by rw [hm], hw, hE⟩)
  have K2 : Hid (∀ w, Ext W w → Calls Try.prog 30 #[.slice A c cap, .int .i64 at_, .int .i64 f, .int .i64 n] w fun e w' => ∃ A3 c3, e = .returned (.tuple #[.slice A3 m c3, .int .i64 nx, .int .i64 e1]) ∧ TimesAt w' A3 L ∧ Ext w w') := hide (fun w hE => (r_deT A c cap b at_ f n w (hb.ext hE) hc hcap hcap2 hat hf hn _ hR).mono fun e w' h => by
    obtain ⟨A3, c3, rfl, _, _, _, hw, hE⟩ := h.parts
    exact ⟨A3, c3, by rw [hm], hw, hE⟩)
  have K3 : Hid (∀ A1 c1 A2 c2 w, TimesAt w A1 L → TimesAt w A2 L → Calls Try.prog 22 #[.slice A1 m c1, .slice A2 m c2] w (Ret (.bool true) w)) := hide (fun A1 c1 A2 c2 w h1 h2 => t_same A1 A2 m m c1 c2 L L w h1 h2 hm hm true (by simp))
  have de : (e1 == e1) = true := by simp
  have dn : (nx == nx) = true := by simp
  clear hb hc hR hm
  go_enter Try.func18, Try.ntmps18
  go_wp2_with (first
    | (go_at_call 21; (with_reducible refine (K1.out).mono ?_); rintro e w1 ⟨A1, c1, rfl, hb1, hE1⟩; have k2 := hide (K2.out w1 hE1); have b1 := hide hb1; have E1 := hide hE1; clear hb1 hE1)
    | (go_at_call 30; (with_reducible refine (k2.out).mono ?_); rintro e w2 ⟨A2, c2, rfl, hb2, hE2⟩; have E2 := hide (Ext.trans E1.out hE2); have k3 := hide (K3.out A1 c1 A2 c2 w2 (b1.out.ext hE2) hb2); clear hb2 hE2 b1)
    | (go_at_call 22; (with_reducible refine (k3.out).mono ?_); rintro e w3 ⟨rfl, hE3⟩; have E3 := hide (Ext.trans E2.out hE3); clear hE3))
  go_ret
  exact ⟨rfl, E3.out⟩
set_option maxRecDepth 100000 in
set_option maxHeartbeats 1600000 in
theorem l_known10 (W : World) : Calls Try.prog 16 #[] W (Ret (.bool true) W) := by
  have E0 := ext_alloc W (.cells #[.int .i64 10, .int .i64 20, .int .i64 30, .int .i64 40] 2)
  have H0 := new_atT W [10, 20, 30, 40] known_isT (by simp) #[.int .i64 10, .int .i64 20, .int .i64 30, .int .i64 40] rfl
  obtain ⟨W1, hW1⟩ : ∃ W1, W.alloc (.cells #[.int .i64 10, .int .i64 20, .int .i64 30, .int .i64 40] 2) = W1 := ⟨_, rfl⟩
  rw [hW1] at E0 H0
  have i0 : I64 0 := ⟨by omega, by omega⟩
  have i4 : I64 4 := ⟨by omega, by omega⟩
  have i10 : I64 10 := ⟨by omega, by omega⟩
  have K1 : Hid (Calls Try.prog 11 #[.slice (some ⟨W.heap.size, 0, none⟩) 4 4] W1 fun e w' => ∃ A cap, e = .returned (.tuple #[.slice A 4 cap, .int .i64 0]) ∧ BytesAt w' A [0, 9, 0, 0] ∧ Ext W1 w') := hide ((p_encT _ 4 4 [10, 20, 30, 40] W1 H0 rfl).mono fun e w' h => by
    rw [known_enT] at h
    obtain ⟨A, cap, rfl, _, _, _, hb, hE⟩ := h.parts
    exact ⟨A, cap, rfl, hb, hE⟩)
  have Hn3 : Hid (∀ w : World, BytesAt (w.alloc (.cells #[.int .u8 0, .int .u8 9, .int .u8 0, .int .u8 0] 5)) (some ⟨w.heap.size, 0, none⟩) [0, 9, 0, 0]) := hide (fun w => new_at w [0, 9, 0, 0] (by intro x hx; simp at hx; omega) (by simp) _ rfl)
  have Hn4 : Hid (∀ w : World, TimesAt (w.alloc (.cells #[.int .i64 10, .int .i64 20, .int .i64 30, .int .i64 40] 2)) (some ⟨w.heap.size, 0, none⟩) [10, 20, 30, 40]) := hide (fun w => new_atT w [10, 20, 30, 40] known_isT (by simp) _ rfl)
  have K2 : Hid (∀ g w, BytesAt w (some ⟨g, 0, none⟩) [0, 9, 0, 0] → Calls Try.prog 21 #[.slice (some ⟨g, 0, none⟩) 4 4, .int .i64 0, .int .i64 10, .int .i64 4] w fun e w' => ∃ A cap, e = .returned (.tuple #[.slice A 4 cap, .int .i64 4, .int .i64 0]) ∧ TimesAt w' A [10, 20, 30, 40] ∧ Ext w w') := hide (fun g w hw => (p_deT _ 4 4 [0, 9, 0, 0] 0 10 4 w hw rfl (by omega) (by omega) i0 i10 i4 _ known_deT).mono fun e w' h => by
    obtain ⟨A, cap, rfl, _, _, _, hb, hE⟩ := h.parts
    exact ⟨A, cap, rfl, hb, hE⟩)
  have K3 : Hid (∀ A1 c1 A2 c2 w, BytesAt w A1 [0, 9, 0, 0] → BytesAt w A2 [0, 9, 0, 0] → Calls Try.prog 13 #[.slice A1 4 c1, .slice A2 4 c2] w (Ret (.bool true) w)) := hide (fun A1 c1 A2 c2 w h1 h2 => r_same A1 A2 4 4 c1 c2 _ _ w h1 h2 rfl rfl true rfl)
  have K4 : Hid (∀ A1 c1 A2 c2 w, TimesAt w A1 [10, 20, 30, 40] → TimesAt w A2 [10, 20, 30, 40] → Calls Try.prog 22 #[.slice A1 4 c1, .slice A2 4 c2] w (Ret (.bool true) w)) := hide (fun A1 c1 A2 c2 w h1 h2 => t_same A1 A2 4 4 c1 c2 _ _ w h1 h2 rfl rfl true rfl)
  have HW1 := hide hW1
  have E0 := hide E0
  clear H0 hW1
  go_enter Try.func16, Try.ntmps16
  go_wp2_with (first
    | (go_at_call 11; rw [HW1.out]; (with_reducible refine (K1.out).mono ?_); rintro e w1 ⟨A1, c1, rfl, hb1, hE1⟩; have b1 := hide (hb1.ext (ext_alloc w1 (.cells #[.int .u8 0, .int .u8 9, .int .u8 0, .int .u8 0] 5))); have E1 := hide (Ext.trans E0.out (Ext.trans hE1 (ext_alloc w1 (.cells #[.int .u8 0, .int .u8 9, .int .u8 0, .int .u8 0] 5)))); have k2 := hide (K2.out _ _ (Hn3.out w1)); clear hb1 hE1)
    | (go_at_call 21; (with_reducible refine (k2.out).mono ?_); rintro e w2 ⟨A2, c2, rfl, hb2, hE2⟩; have b3 := hide ((b1.out.ext hE2).ext (ext_alloc w2 (.cells #[.int .u8 0, .int .u8 9, .int .u8 0, .int .u8 0] 5))); have b2 := hide (hb2.ext (ext_alloc w2 (.cells #[.int .u8 0, .int .u8 9, .int .u8 0, .int .u8 0] 5))); have E2 := hide (Ext.trans E1.out (Ext.trans hE2 (ext_alloc w2 (.cells #[.int .u8 0, .int .u8 9, .int .u8 0, .int .u8 0] 5)))); have k3 := hide (K3.out A1 c1 _ 4 _ b3.out (Hn3.out w2)); clear hb2 hE2 b1)
    | (go_at_call 13; (with_reducible refine (k3.out).mono ?_); rintro e w3 ⟨rfl, hE3⟩; have b4 := hide ((b2.out.ext hE3).ext (ext_alloc w3 (.cells #[.int .i64 10, .int .i64 20, .int .i64 30, .int .i64 40] 2))); have E3 := hide (Ext.trans E2.out (Ext.trans hE3 (ext_alloc w3 (.cells #[.int .i64 10, .int .i64 20, .int .i64 30, .int .i64 40] 2)))); have k4 := hide (K4.out A2 c2 _ 4 _ b4.out (Hn4.out w3)); clear hE3)
    | (go_at_call 22; (with_reducible refine (k4.out).mono ?_); rintro e w4 ⟨rfl, hE4⟩; have E4 := hide (Ext.trans E3.out hE4); clear hE4))
  go_ret
  exact ⟨rfl, E4.out⟩
/-- What is kept through a law: the tape, and a list of times that it gave. -/
structure Bt (W : World) (B : Nat) (A : Option Addr) (n cap : Nat) (m : List Int) (w : World) : Prop where
  e : Ext W w
  t : TapeOk W.heap.size w W.heap.size
  o : OwnT B w (.slice A n cap) m
  gb : W.heap.size < B
section
variable {W : World} {B : Nat} {A : Option Addr} {n cap : Nat} {m : List Int} {w w' : World}
theorem Bt.ext (s : Bt W B A n cap m w) (k : Ext w w') : Bt W B A n cap m w' := ⟨s.e.trans k, s.t.ext k, s.o.ext k, s.gb⟩
theorem Bt.upd (s : Bt W B A n cap m w) (u : Upd W.heap.size w w') (t : TapeOk W.heap.size w' W.heap.size) : Bt W B A n cap m w' := ⟨Upd.ext u s.e (Nat.le_refl _), t, s.o.upd u s.gb, s.gb⟩
theorem Bt.times (s : Bt W B A n cap m w) : TimesAt w A m := own_times s.o
theorem Bt.of {w1 : World} (h1 : Ext W w1) (hT : TapeOk W.heap.size w1 W.heap.size) (o : OwnT w1.heap.size w (.slice A n cap) m) (t : TapeOk W.heap.size w W.heap.size) (u : Upd W.heap.size w1 w) : Bt W w1.heap.size A n cap m w := ⟨Upd.ext u h1 (Nat.le_refl _), t, o, hT.2.1⟩
end
end Go.Proofs.Ytjmigglibidbdaa
