/- The reference's Append, Size, Zigzag, Unzigzag, AppendSigned, groups, Read and ReadSigned of layer 5. Conditions: the slices read as bytes. -/
import Derived.Test.YtjmigglibidbdaaVar1
import Derived.Test.YtjmigglibidbdaaByB
import Derived.Test.YtjmigglibidbdaaBase
import Derived.Test.YtjmigglibidbdaaTapeB
import Derived.Test.YtjmigglibidbdaaVarG
namespace Go.Proofs.Ytjmigglibidbdaa
set_option linter.unusedVariables false
set_option linter.unusedSimpArgs false
open Go Go.RowKit
set_option maxHeartbeats 1600000 in
set_option maxRecDepth 100000 in
theorem v_append (A : Option Addr) (c cap v : Nat) (l : List Nat) (W : World) (h : BytesAt W A l) (hc : l.length = c) (hlen : c ≤ 140737488355264) (hv : v < 18446744073709551616) :
    Calls Try.prog 43 #[.slice A c cap, .int .u64 (v : Int)] W (OwnRet (l ++ encB v) W) := by
  have O0 : OwnB W.heap.size (W.alloc (.cells #[] 5)) (.slice (some ⟨W.heap.size, 0, none⟩) 0 0) [] := own_of (m := []) (Nat.le_refl _) (heap_alloc_new W _) rfl rfl (by omega) IsB.nil
  have E0 := ext_alloc W (.cells #[] 5)
  have H0 := h.ext E0
  have B0 : W.heap.size ≤ (W.alloc (.cells #[] 5)).heap.size := E0.size
  have L0 : ([] : List Nat).length + l.length ≤ 140737488355328 := by simp; omega
  have m1 : (encB v).length ≤ 10 := encB_length_le v 9 (by omega)
  go_enter Try.func43, Try.ntmps43
  go_wp2_with (at_builtin; refine wl_append8 rfl (.tmp 6) (.tmp 7) rfl W.heap.size _ [] l rfl O0 A c cap rfl H0 hc L0 B0 ?_; intro v1 w1 hO hG hA)
  rw [List.nil_append] at hO
  have E1 : Below W.heap.size W w1 := below_grown E0 (Nat.le_refl _) O0 hG
  have HO := hide hO
  have HE := hide E1
  have HC := hide hc
  clear O0 E0 H0 B0 L0 hO hG hA E1 h hc
  go_loopw [1, 5] (fun i u wr => ∃ (n : Nat) (p : List Nat), n < 18446744073709551616 ∧ i = .int .u64 n ∧ Hid (p ++ encB n = encB v) ∧ Hid (OwnB W.heap.size wr u (l ++ p)) ∧ Hid (Below W.heap.size W wr)) (fun i _ _ => (intOf i).toNat)
  case atStart => exact ⟨v, [], hv, rfl, hide rfl, hide (by rw [List.append_nil]; exact HO.out), HE⟩
  case round =>
    clear HO HE
    obtain ⟨n, p, hn, rfl, HP, HO, HE⟩ := hrel
    have hpl : p.length ≤ 10 := by
      have := congrArg List.length HP.out
      rw [List.length_append] at this; omega
    by_cases hge : 128 ≤ n
    · have hge' : (128 : Int) ≤ (n : Int) := by omega
      have hu : Value.int .u8 ((n : Int) % 128 + 128) = Value.int .u8 ((n % 128 + 128 : Nat) : Int) := rfl
      have hO := one_at wr (n % 128 + 128) (by omega) _ hu
      have hO1 := HO.out.alloc (.cells #[Value.int .u8 ((n : Int) % 128 + 128)] 5)
      have hlen1 : (l ++ p).length + [n % 128 + 128].length ≤ 140737488355328 := by
        rw [List.length_append]; have := HC.out; simp; omega
      have hB1 : W.heap.size ≤ (wr.alloc (.cells #[Value.int .u8 ((n : Int) % 128 + 128)] 5)).heap.size := by have := HE.out.size; simp; omega
      have hE1 := Below.alloc HE.out HE.out.size (.cells #[Value.int .u8 ((n : Int) % 128 + 128)] 5)
      have hO := hide hO
      have hO1 := hide hO1
      have hE1 := hide hE1
      have HP2 : Hid ((p ++ [n % 128 + 128]) ++ encB (n / 128) = encB v) := by
        show _ = _
        rw [← HP.out, encB_big hge]; simp
      clear hu HP
      go_wp2_with (at_builtin; refine wl_append8 rfl (.tmp 11) (.tmp 16) rfl W.heap.size _ _ _ rfl hO1.out _ 1 1 rfl hO.out rfl hlen1 hB1 ?_; intro v2 w2 hO2 hG2 hA2; have hE2 := hide (below_grown hE1.out (Nat.le_refl _) hO1.out hG2); have hO2 := hide hO2; clear hG2 hA2)
      go_roundw
      case rel => exact ⟨n / 128, p ++ [n % 128 + 128], by omega, rfl, HP2, hide (by rw [← List.append_assoc]; exact hO2.out), hE2⟩
      case measure => simp [intOf]; omega
    · have hge' : ¬ (128 : Int) ≤ (n : Int) := by omega
      have hO := one_at wr n (by omega) (.int .u8 (n : Int)) rfl
      have hO1 := HO.out.alloc (.cells #[Value.int .u8 (n : Int)] 5)
      have hlen1 : (l ++ p).length + [n].length ≤ 140737488355328 := by
        rw [List.length_append]; have := HC.out; simp; omega
      have hB1 : W.heap.size ≤ (wr.alloc (.cells #[Value.int .u8 (n : Int)] 5)).heap.size := by have := HE.out.size; simp; omega
      have hE1 := Below.alloc HE.out HE.out.size (.cells #[Value.int .u8 (n : Int)] 5)
      have hO := hide hO
      have hO1 := hide hO1
      have hE1 := hide hE1
      have HP2 : Hid (p ++ [n] = encB v) := by
        show _ = _
        rw [← HP.out, encB_small (by omega)]
      clear HP
      go_wp2_with (at_builtin; refine wl_append8 rfl (.tmp 20) (.tmp 23) rfl W.heap.size _ _ _ rfl hO1.out _ 1 1 rfl hO.out rfl hlen1 hB1 ?_; intro v2 w2 hO2 hG2 hA2; have hE2 := hide (below_grown hE1.out (Nat.le_refl _) hO1.out hG2); have hO2 := hide hO2; clear hG2 hA2)
      go_ret
      exact ⟨_, rfl, by rw [← HP2.out, ← List.append_assoc]; exact hO2.out, hE2.out⟩
theorem v_size (v : Nat) (W : World) (hv : v < 18446744073709551616) : Calls Try.prog 40 #[.int .u64 (v : Int)] W (Ret (.int .i64 ((encB v).length : Int)) W) := by
  have K : Hid (∀ w, Calls Try.prog 43 #[.slice none 0 0, .int .u64 (v : Int)] w (OwnRet (encB v) w)) := fun w => v_append none 0 0 v [] w (BytesAt.nil _ _) rfl (by omega) hv
  go_enter Try.func40, Try.ntmps40
  go_wp2_with fail
  (with_reducible refine (K.out _).mono ?_)
  rintro e w1 ⟨u, rfl, hO, hE⟩
  obtain ⟨A, cap, rfl, -, -, -⟩ := hO.at_
  go_wp2_with fail
  go_ret
  exact ⟨rfl, hE⟩
theorem v_zigzag (v : Int) (W : World) (h1 : -9223372036854775808 ≤ v) (h2 : v ≤ 9223372036854775807) : Calls Try.prog 28 #[.int .i64 v] W (RetSame (.int .u64 (zig v : Int)) W) := by
  by_cases h : 0 ≤ v
  · obtain ⟨n, rfl⟩ := Int.eq_ofNat_of_zero_le h
    have e : zig (n : Int) = 2 * n := by unfold zig; rw [if_pos h]; omega
    go_enter Try.func28, Try.ntmps28
    go_wp2_with fail
    go_ret
    exact ⟨congrArg (fun x => Ending.returned (Value.int .u64 x)) (by first | omega | (rw [e]; omega)), rfl⟩
  · obtain ⟨n, hn⟩ : ∃ n : Nat, v = -(n : Int) - 1 := ⟨(-v - 1).toNat, by omega⟩
    subst hn
    have e : zig (-(n : Int) - 1) = 2 * n + 1 := by unfold zig; rw [if_neg h]; omega
    have a : -(-(n : Int) - 1 + 1) = (n : Int) := by omega
    go_enter Try.func28, Try.ntmps28
    go_wp2_with fail
    go_ret
    exact ⟨congrArg (fun x => Ending.returned (Value.int .u64 x)) (by first | omega | (rw [e]; omega)), rfl⟩
theorem v_unzigzag (n : Nat) (W : World) (h : n < 18446744073709551616) : Calls Try.prog 45 #[.int .u64 (n : Int)] W (RetSame (.int .i64 (zag n)) W) := by
  by_cases k : n % 2 = 0
  · have e : zag n = (n : Int) / 2 := by unfold zag; rw [if_pos k]; omega
    have k' : (n : Int) % 2 = 0 := by omega
    rw [e]
    go_enter Try.func45, Try.ntmps45
    go_wp2_with fail
    go_ret
    exact ⟨rfl, rfl⟩
  · have e : zag n = -((n : Int) / 2) - 1 := by unfold zag; rw [if_neg k]; omega
    have k' : ¬ (n : Int) % 2 = 0 := by omega
    rw [e]
    go_enter Try.func45, Try.ntmps45
    go_wp2_with fail
    go_ret
    exact ⟨rfl, rfl⟩
/-- What the reference's groups returns. -/
def gpV (A : Option Addr) (cap : Nat) (l : List Nat) (a most : Nat) : Value :=
  match scanG most (l.drop a) with
  | none => .tuple #[.slice none 0 0, .int .i64 (if l.length - a < most then 4 else 5)]
  | some g => .tuple #[.slice (if cap = a then A else A.map (·.add (a * 1))) g.length (cap - a), .int .i64 0]
theorem v_groups_out (A : Option Addr) (c cap : Nat) (at_ most : Int) (W : World) (h : at_ < 0 ∨ (c : Int) < at_) : Calls Try.prog 71 #[.slice A c cap, .int .i64 at_, .int .i64 most] W (RetSame (.tuple #[.slice none 0 0, .int .i64 2]) W) := by
  by_cases h0 : at_ < 0
  · have d0 : decide (at_ < 0) = true := decide_eq_true h0
    clear h
    go_enter Try.func71, Try.ntmps71
    go_wp2_with fail
    go_ret2
    exact ⟨rfl, rfl⟩
  · have h1 : (c : Int) < at_ := by omega
    have d0 : decide (at_ < 0) = false := decide_eq_false h0
    have d1 : decide ((c : Int) < at_) = true := decide_eq_true h1
    clear h
    go_enter Try.func71, Try.ntmps71
    go_wp2_with fail
    go_ret2
    exact ⟨rfl, rfl⟩
set_option maxRecDepth 100000 in
set_option maxHeartbeats 1600000 in
theorem v_groups (A : Option Addr) (c cap a most : Nat) (l : List Nat) (W : World) (hb : BytesAt W A l) (hc : l.length = c) (hcap : c ≤ cap) (hcap2 : c ≤ 4611686018427387904) (ha : a ≤ c) (hm : most ≤ 50) :
    Calls Try.prog 71 #[.slice A c cap, .int .i64 (a : Int), .int .i64 (most : Int)] W (RetSame (gpV A cap l a most) W) := by
  have Hb := hide hb
  have Hc := hide hc
  have a0 : ¬ (a : Int) < 0 := by omega
  have a1 : ¬ (c : Int) < (a : Int) := by omega
  clear hb hc
  go_enter Try.func71, Try.ntmps71
  go_wp2_with fail
  go_loop [8] (fun i => ∃ j : Nat, j ≤ most ∧ a + j ≤ c ∧ i = .int .i64 (j : Int) ∧ Hid (∀ i, i < j → 128 ≤ l.getD (a + i) 0)) (fun i => most - (intOf i).toNat)
  case atStart => exact ⟨0, by omega, by omega, rfl, fun i hi => absurd hi (by omega)⟩
  case round =>
    clear a0 a1
    obtain ⟨j, hj, hjc, rfl, hall⟩ := hrel
    have hdrop : Hid (∀ i, (l.drop a).getD i 0 = l.getD (a + i) 0) := fun i => by simp [List.getD_eq_getElem?_getD, List.getElem?_drop]
    have hdl : Hid ((l.drop a).length = c - a) := by show _ = _; rw [List.length_drop, Hc.out]
    by_cases h1 : a + j < c
    · have h1' : (a : Int) + (j : Int) < (c : Int) := by omega
      by_cases h2 : j < most
      · have h2' : (j : Int) < (most : Int) := by omega
        obtain ⟨b, off, rfl, _, hcl⟩ := Hb.out.2.2 (by rw [Hc.out]; omega)
        have d2 := hcl (a + j) (by rw [Hc.out]; omega)
        have hyb := Hb.out.1.get (a + j)
        obtain ⟨y, hy⟩ : ∃ y, l.getD (a + j) 0 = y := ⟨_, rfl⟩
        rw [hy] at d2 hyb
        have e1 : (a : Int) + ((j : Int) + 1) - 1 = (a : Int) + (j : Int) := by omega
        have Hy := hide hy
        clear hcl hy
        by_cases h3 : y < 128
        · have h3' : (y : Int) < 128 := by omega
          have hs := run_mid (some ⟨b, off, none⟩) c a (a + (j + 1)) cap (by omega) (by omega)
          have e2 : (((a + (j + 1) : Nat)) : Int) = (a : Int) + ((j : Int) + 1) := by omega
          rw [e2] at hs
          have HR : Hid (gpV (some ⟨b, off, none⟩) cap l a most = .tuple #[.slice (some ⟨b, off + a, none⟩) (j + 1) (cap - a), .int .i64 0]) := by
            show _ = _
            unfold gpV
            rw [scanG_at most (l.drop a) j h2 (by rw [hdl.out]; omega) (by rw [hdrop.out, Hy.out]; exact h3) (fun i hi => by rw [hdrop.out]; exact hall.out i hi)]
            show Value.tuple #[.slice _ ((l.drop a).take (j + 1)).length _, _] = _
            rw [List.length_take, hdl.out, Nat.min_eq_left (by omega), if_neg (by omega), Nat.mul_one]
            show Value.tuple #[.slice (some ((⟨b, off, none⟩ : Addr).add a)) _ _, _] = _
            rw [add_at]
          clear hall hdrop hdl e2 Hy
          go_wp2_with fail
          go_ret2
          exact ⟨by rw [HR.out]; rfl, rfl⟩
        · have h3' : ¬ (y : Int) < 128 := by omega
          have hall2 : Hid (∀ i, i < j + 1 → 128 ≤ l.getD (a + i) 0) := fun i hi => by
            by_cases he : i = j
            · subst he; rw [Hy.out]; omega
            · exact hall.out i (by omega)
          clear hall hdrop hdl Hy
          go_wp2_with fail
          go_round
          case rel => exact ⟨j + 1, by omega, by omega, by go_num, hall2⟩
          case measure => simp [intOf]; omega
      · have h2' : ¬ (j : Int) < (most : Int) := by omega
        have h4 : (j : Int) = (most : Int) := by omega
        have HR : Hid (gpV A cap l a most = .tuple #[.slice none 0 0, .int .i64 5]) := by
          show _ = _
          unfold gpV
          rw [scanG_none most (l.drop a) (fun i hi _ => by rw [hdrop.out]; exact hall.out i (by omega))]
          show Value.tuple #[_, .int .i64 (if l.length - a < most then 4 else 5)] = _
          rw [Hc.out, if_neg (by omega)]
        clear hall hdrop hdl
        go_wp2_with fail
        go_ret2
        exact ⟨by rw [HR.out]; rfl, rfl⟩
    · have h1' : ¬ (a : Int) + (j : Int) < (c : Int) := by omega
      have hjc2 : j = c - a := by omega
      have hno : scanG most (l.drop a) = none := scanG_none most (l.drop a) (fun i hi hi2 => by rw [hdl.out] at hi2; rw [hdrop.out]; exact hall.out i (by omega))
      by_cases h2 : j < most
      · have h4 : ¬ (j : Int) = (most : Int) := by omega
        have HR : Hid (gpV A cap l a most = .tuple #[.slice none 0 0, .int .i64 4]) := by
          show _ = _
          unfold gpV
          rw [hno]
          show Value.tuple #[_, .int .i64 (if l.length - a < most then 4 else 5)] = _
          rw [Hc.out, if_pos (by omega)]
        clear hall hdrop hdl hno
        go_wp2_with fail
        go_ret2
        exact ⟨by rw [HR.out]; rfl, rfl⟩
      · have h4 : (j : Int) = (most : Int) := by omega
        have HR : Hid (gpV A cap l a most = .tuple #[.slice none 0 0, .int .i64 5]) := by
          show _ = _
          unfold gpV
          rw [hno]
          show Value.tuple #[_, .int .i64 (if l.length - a < most then 4 else 5)] = _
          rw [Hc.out, if_neg (by omega)]
        clear hall hdrop hdl hno
        go_wp2_with fail
        go_ret2
        exact ⟨by rw [HR.out]; rfl, rfl⟩
theorem okG64 {g : List Nat} {n x : Nat} (hn : g.length = n + 1) (hx : g.getLastD 0 = x) (h10 : n + 1 ≤ 10) (hx8 : x < 128) : okG 64 g = !((decide (x = 0) && decide (0 < n)) || (decide (n + 1 = 10) && decide (1 < x))) := by
  rw [okG_form hn hx]
  have hb := (bl8 x hx8).1
  have he : decide (7 * n + Lib.bitLen x ≤ 64) = !(decide (n + 1 = 10) && decide (1 < x)) := by
    by_cases h9 : n + 1 = 10
    · obtain rfl : n = 9 := by omega
      obtain ⟨_, u, c⟩ := bitLen_spec x (by omega)
      by_cases h1 : 1 < x
      · rw [decide_eq_true h1, decide_eq_true h9, decide_eq_false]; rfl
        intro h
        have : Lib.bitLen x ≤ 1 := by omega
        have h2 : 2 ^ Lib.bitLen x ≤ 2 ^ 1 := Nat.pow_le_pow_right (by omega) this
        omega
      · have hx1 : x = 0 ∨ x = 1 := by omega
        rcases hx1 with rfl | rfl <;> decide +kernel
    · rw [decide_eq_false h9, decide_eq_true (by omega)]; rfl
  rw [he]
  cases (decide (x = 0) && decide (0 < n)) <;> cases (decide (n + 1 = 10) && decide (1 < x)) <;> rfl
set_option maxRecDepth 100000 in
set_option maxHeartbeats 1600000 in
theorem v_read (A : Option Addr) (c cap : Nat) (l : List Nat) (at_ : Int) (W : World) (hb : BytesAt W A l) (hc : l.length = c) (hcap : c ≤ cap) (hcap2 : c ≤ 4611686018427387904) (hat : I64 at_) (r1 r2 r3 : Int) (hr : rdV l at_ = (r1, r2, r3)) :
    Calls Try.prog 67 #[.slice A c cap, .int .i64 at_] W (RetSame (.tuple #[.int .u64 r1, .int .i64 r2, .int .i64 r3]) W) := by
  by_cases hout : at_ < 0 ∨ (c : Int) < at_
  · have e : rdV l at_ = (0, 0, 2) := by
      unfold rdV rdG rdE bhd
      rw [hc, if_pos hout, if_pos hout]
    rw [e] at hr
    obtain ⟨rfl, h2⟩ := Prod.mk.inj hr
    obtain ⟨rfl, rfl⟩ := Prod.mk.inj h2
    have KG : Hid (∀ w, Calls Try.prog 71 #[.slice A c cap, .int .i64 at_, .int .i64 10] w (RetSame (.tuple #[.slice none 0 0, .int .i64 2]) w)) := fun w => v_groups_out A c cap at_ 10 w hout
    clear hb hc hr h2 e hout
    go_enter Try.func67, Try.ntmps67
    go_wp2_with (go_at_call 71; (with_reducible refine (KG.out _).mono ?_); rintro e w1 ⟨rfl, rfl⟩)
    go_ret3
    exact ⟨rfl, rfl⟩
  · obtain ⟨a, rfl⟩ := Int.eq_ofNat_of_zero_le (show 0 ≤ at_ by omega)
    have ha : a ≤ c := by omega
    have KG : Hid (∀ w, Ext W w → Calls Try.prog 71 #[.slice A c cap, .int .i64 (a : Int), .int .i64 10] w (RetSame (gpV A cap l a 10) w)) := fun w h => v_groups A c cap a 10 l w (hb.ext h) hc hcap hcap2 ha (by omega)
    cases hs : scanG 10 (l.drop a) with
    | none =>
      have eg : gpV A cap l a 10 = .tuple #[.slice none 0 0, .int .i64 (if l.length - a < 10 then 4 else 5)] := by unfold gpV; rw [hs]
      have e : rdV l (a : Int) = (0, 0, if l.length - a < 10 then 4 else 5) := by
        unfold rdV rdG rdE bhd
        rw [hc, if_neg hout, if_neg hout, Int.toNat_natCast, hs]
      rw [e] at hr
      obtain ⟨rfl, h2⟩ := Prod.mk.inj hr
      obtain ⟨rfl, h3⟩ := Prod.mk.inj h2
      rw [eg, h3] at KG
      have q1 : ¬ (r3 = 0) := by rw [← h3]; split <;> omega
      have q2 : (r3 != 0) = true := by rw [bne_iff_ne]; exact q1
      have kg := hide (KG.out W (Ext.refl _))
      clear hb hc hr h2 h3 e eg hout KG hs
      go_enter Try.func67, Try.ntmps67
      go_wp2_with (go_at_call 71; (with_reducible refine (kg.out).mono ?_); rintro e w1 ⟨rfl, rfl⟩)
      go_ret3
      exact ⟨rfl, rfl⟩
    | some g =>
      have eg : gpV A cap l a 10 = .tuple #[.slice (if cap = a then A else A.map (·.add (a * 1))) g.length (cap - a), .int .i64 0] := by unfold gpV; rw [hs]
      rw [eg] at KG
      obtain ⟨r, x, hgr, hx, hrr, ⟨t, ht⟩, hm10⟩ := scanG_some 10 _ g hs
      have hb2 : BytesAt W (if cap = a then A else A.map (·.add (a * 1))) g := by
        have h1 := (hb.drop a cap (by omega)).take g.length
        have h2 : (l.drop a).take g.length = g := by rw [← ht, List.take_left']; rfl
        rw [h2] at h1
        exact h1
      obtain ⟨n, hn⟩ : ∃ n, g.length = n + 1 := ⟨r.length, by rw [hgr]; simp⟩
      have hlast : g.getLastD 0 = x := by rw [hgr]; simp
      have hlx : g.getD n 0 = x := by
        have : n = r.length := by rw [hgr] at hn; simp at hn; omega
        rw [hgr, this]; simp
      have hok := okG64 hn hlast (by omega) hx
      obtain ⟨b, off, hA, hbw, hcl⟩ := hb2.2.2 (by omega)
      rw [hA, hn] at KG
      have d1 := hcl n (by omega)
      rw [hlx] at d1
      have HCL := hide hcl
      have Hn := hide hn
      have KB : Hid (Calls Try.prog 71 #[.slice A c cap, .int .i64 (a : Int), .int .i64 10] W (RetSame (.tuple #[.slice (some ⟨b, off, none⟩) (n + 1) (cap - a), .int .i64 0]) W)) := KG.out W (Ext.refl _)
      have hn9 : n ≤ 9 := by omega
      by_cases hbad : (x = 0 ∧ 0 < n) ∨ (n + 1 = 10 ∧ 1 < x)
      · have hk : okG 64 g = false := by
          rw [hok]
          rcases hbad with ⟨u1, u2⟩ | ⟨u1, u2⟩
          · rw [decide_eq_true u1, decide_eq_true u2]; rfl
          · rw [decide_eq_true u1, decide_eq_true u2]; simp
        have e : rdV l (a : Int) = (0, 0, 5) := by
          unfold rdV rdG rdE bhd
          rw [hc, if_neg hout, if_neg hout, Int.toNat_natCast, hs]
          simp [hk]
        rw [e] at hr
        obtain ⟨rfl, h2⟩ := Prod.mk.inj hr
        obtain ⟨rfl, rfl⟩ := Prod.mk.inj h2
        have x1 : (x : Int) < 128 := by omega
        clear hb hc hr h2 e hout KG hs eg hgr hrr ht hb2 hcl hok hk hlx hlast hA hn
        rcases hbad with ⟨u1, u2⟩ | ⟨u1, u2⟩
        · have q1 : ((x : Int) == 0) = true := beq_iff_eq.2 (by omega)
          have u3 : (1 : Int) < (n : Int) + 1 := by omega
          clear u1 u2
          go_enter Try.func67, Try.ntmps67
          go_wp2_with (go_at_call 71; (with_reducible refine (KB.out).mono ?_); rintro e w1 ⟨rfl, rfl⟩)
          go_ret3
          exact ⟨rfl, rfl⟩
        · obtain rfl : n = 9 := by omega
          have q1 : ((x : Int) == 0) = false := beq_eq_false_iff_ne.2 (by omega)
          have u4 : (1 : Int) < (x : Int) := by omega
          clear u1 u2
          go_enter Try.func67, Try.ntmps67
          go_wp2_with (go_at_call 71; (with_reducible refine (KB.out).mono ?_); rintro e w1 ⟨rfl, rfl⟩)
          go_ret3
          exact ⟨rfl, rfl⟩
      · have hk : okG 64 g = true := by
          rw [hok]
          by_cases u1 : x = 0
          · have u2 : ¬ 0 < n := fun u2 => hbad (Or.inl ⟨u1, u2⟩)
            rw [decide_eq_false u2, decide_eq_false (show ¬ 1 < x by omega)]; simp
          · rw [decide_eq_false u1]
            by_cases u3 : n + 1 = 10
            · rw [decide_eq_false (show ¬ 1 < x from fun u4 => hbad (Or.inr ⟨u3, u4⟩))]; simp
            · rw [decide_eq_false u3]; rfl
        have hdec := decB_ok (width := 64) hs hk
        have hdec : decB g < 18446744073709551616 := hdec
        have e : rdV l (a : Int) = ((decB g : Int), (a : Int) + (g.length : Int), 0) := by
          unfold rdV rdG
          rw [hc, if_neg hout, Int.toNat_natCast, hs]
          simp [hk]
        rw [e] at hr
        obtain ⟨rfl, h2⟩ := Prod.mk.inj hr
        obtain ⟨rfl, rfl⟩ := Prod.mk.inj h2
        have x1 : (x : Int) < 128 := by omega
        rw [hn]
        have hib := hb2.1
        clear hb hc hr h2 e hout KG hs eg hgr hrr ht hb2 hcl hok hk hlx hlast hA hn
        have h3 : (x = 0 ∧ n = 0) ∨ (x ≠ 0 ∧ n + 1 = 10 ∧ ¬ 1 < x) ∨ (x ≠ 0 ∧ n + 1 ≠ 10) := by omega
        go_enter Try.func67, Try.ntmps67
        go_upto_region 5 with (go_at_call 71; (with_reducible refine (KB.out).mono ?_); rintro e w1 ⟨rfl, rfl⟩)
        rcases h3 with ⟨u1, u2⟩ | ⟨u1, u2, u3⟩ | ⟨u1, u2⟩
        · have q1 : ((x : Int) == 0) = true := beq_iff_eq.2 (by omega)
          have q2 : ¬ (1 : Int) < (n : Int) + 1 := by omega
          have q3 : ¬ (n : Int) + 1 = 10 := by omega
          clear u1 u2
          go_upto_region 8 with fail
          go_wp2_with fail
          go_loop [10, 11] (fun v i => ∃ j : Nat, j ≤ n + 1 ∧ i = .int .i64 ((j : Int) - 1) ∧ v = .int .u64 (decB (g.drop j) : Int)) (fun _ i => (intOf i + 1).toNat)
          case atStart => exact ⟨n + 1, Nat.le_refl _, congrArg (Value.int .i64) (by omega), by rw [List.drop_of_length_le (by rw [Hn.out]; exact Nat.le_refl _)]; rfl⟩
          case round =>
            clear q1 q2 q3
            obtain ⟨j, hj, rfl, rfl⟩ := hrel
            have hle := decB_drop_le g j
            obtain ⟨v, hv⟩ : ∃ v, decB (g.drop j) = v := ⟨_, rfl⟩
            rw [hv] at hle ⊢
            cases j with
            | zero =>
              have Hv : Hid (v = decB g) := by show _ = _; rw [← hv]; simp
              have n1 : ¬ (0 : Int) ≤ ((0 : Nat) : Int) - 1 := by omega
              clear hv
              go_wp2_with fail
              go_ret3
              exact ⟨by rw [← Hv.out]; rfl, rfl⟩
            | succ j =>
              have e1 : ((((j + 1 : Nat) : Int)) - 1) = (j : Int) := by omega
              rw [e1]
              clear e1
              have hjg : j < g.length := by rw [Hn.out]; omega
              have hst := decB_drop hjg
              rw [hv] at hst
              have hle2 := decB_drop_le g j
              have d2 := HCL.out j (by rw [Hn.out]; omega)
              have hyb : g.getD j 0 < 256 := hib.get _
              obtain ⟨y, hy⟩ : ∃ y, g.getD j 0 = y := ⟨_, rfl⟩
              rw [hy] at d2 hst hyb
              have hv57 : v ≤ 144115188075855871 := by omega
              have Hst : Hid (decB (g.drop j) = v * 128 + y % 128) := by show _ = _; omega
              have ge : (0 : Int) ≤ (j : Int) := by omega
              have hsum : v * 128 + y % 128 < 18446744073709551616 := by omega
              clear hy hv hst hle2 hjg hle
              go_wp2_with fail
              go_round
              case rel => exact ⟨j, by omega, rfl, by rw [Hst.out]; exact congrArg (Value.int .u64) (by omega)⟩
              case measure => first | (simp [intOf]; done) | (simp [intOf]; omega)
        · have q1 : ((x : Int) == 0) = false := beq_eq_false_iff_ne.2 (by omega)
          have q2 : (n : Int) + 1 = 10 := by omega
          have q3 : ¬ (1 : Int) < (x : Int) := by omega
          clear u1 u2 u3
          go_upto_region 8 with fail
          go_wp2_with fail
          go_loop [10, 11] (fun v i => ∃ j : Nat, j ≤ n + 1 ∧ i = .int .i64 ((j : Int) - 1) ∧ v = .int .u64 (decB (g.drop j) : Int)) (fun _ i => (intOf i + 1).toNat)
          case atStart => exact ⟨n + 1, Nat.le_refl _, congrArg (Value.int .i64) (by omega), by rw [List.drop_of_length_le (by rw [Hn.out]; exact Nat.le_refl _)]; rfl⟩
          case round =>
            clear q1 q2 q3
            obtain ⟨j, hj, rfl, rfl⟩ := hrel
            have hle := decB_drop_le g j
            obtain ⟨v, hv⟩ : ∃ v, decB (g.drop j) = v := ⟨_, rfl⟩
            rw [hv] at hle ⊢
            cases j with
            | zero =>
              have Hv : Hid (v = decB g) := by show _ = _; rw [← hv]; simp
              have n1 : ¬ (0 : Int) ≤ ((0 : Nat) : Int) - 1 := by omega
              clear hv
              go_wp2_with fail
              go_ret3
              exact ⟨by rw [← Hv.out]; rfl, rfl⟩
            | succ j =>
              have e1 : ((((j + 1 : Nat) : Int)) - 1) = (j : Int) := by omega
              rw [e1]
              clear e1
              have hjg : j < g.length := by rw [Hn.out]; omega
              have hst := decB_drop hjg
              rw [hv] at hst
              have hle2 := decB_drop_le g j
              have d2 := HCL.out j (by rw [Hn.out]; omega)
              have hyb : g.getD j 0 < 256 := hib.get _
              obtain ⟨y, hy⟩ : ∃ y, g.getD j 0 = y := ⟨_, rfl⟩
              rw [hy] at d2 hst hyb
              have hv57 : v ≤ 144115188075855871 := by omega
              have Hst : Hid (decB (g.drop j) = v * 128 + y % 128) := by show _ = _; omega
              have ge : (0 : Int) ≤ (j : Int) := by omega
              have hsum : v * 128 + y % 128 < 18446744073709551616 := by omega
              clear hy hv hst hle2 hjg hle
              go_wp2_with fail
              go_round
              case rel => exact ⟨j, by omega, rfl, by rw [Hst.out]; exact congrArg (Value.int .u64) (by omega)⟩
              case measure => first | (simp [intOf]; done) | (simp [intOf]; omega)
        · have q1 : ((x : Int) == 0) = false := beq_eq_false_iff_ne.2 (by omega)
          have q2 : ¬ (n : Int) + 1 = 10 := by omega
          have q3 : True := trivial
          clear u1 u2
          go_upto_region 8 with fail
          go_wp2_with fail
          go_loop [10, 11] (fun v i => ∃ j : Nat, j ≤ n + 1 ∧ i = .int .i64 ((j : Int) - 1) ∧ v = .int .u64 (decB (g.drop j) : Int)) (fun _ i => (intOf i + 1).toNat)
          case atStart => exact ⟨n + 1, Nat.le_refl _, congrArg (Value.int .i64) (by omega), by rw [List.drop_of_length_le (by rw [Hn.out]; exact Nat.le_refl _)]; rfl⟩
          case round =>
            clear q1 q2 q3
            obtain ⟨j, hj, rfl, rfl⟩ := hrel
            have hle := decB_drop_le g j
            obtain ⟨v, hv⟩ : ∃ v, decB (g.drop j) = v := ⟨_, rfl⟩
            rw [hv] at hle ⊢
            cases j with
            | zero =>
              have Hv : Hid (v = decB g) := by show _ = _; rw [← hv]; simp
              have n1 : ¬ (0 : Int) ≤ ((0 : Nat) : Int) - 1 := by omega
              clear hv
              go_wp2_with fail
              go_ret3
              exact ⟨by rw [← Hv.out]; rfl, rfl⟩
            | succ j =>
              have e1 : ((((j + 1 : Nat) : Int)) - 1) = (j : Int) := by omega
              rw [e1]
              clear e1
              have hjg : j < g.length := by rw [Hn.out]; omega
              have hst := decB_drop hjg
              rw [hv] at hst
              have hle2 := decB_drop_le g j
              have d2 := HCL.out j (by rw [Hn.out]; omega)
              have hyb : g.getD j 0 < 256 := hib.get _
              obtain ⟨y, hy⟩ : ∃ y, g.getD j 0 = y := ⟨_, rfl⟩
              rw [hy] at d2 hst hyb
              have hv57 : v ≤ 144115188075855871 := by omega
              have Hst : Hid (decB (g.drop j) = v * 128 + y % 128) := by show _ = _; omega
              have ge : (0 : Int) ≤ (j : Int) := by omega
              have hsum : v * 128 + y % 128 < 18446744073709551616 := by omega
              clear hy hv hst hle2 hjg hle
              go_wp2_with fail
              go_round
              case rel => exact ⟨j, by omega, rfl, by rw [Hst.out]; exact congrArg (Value.int .u64) (by omega)⟩
              case measure => first | (simp [intOf]; done) | (simp [intOf]; omega)
end Go.Proofs.Ytjmigglibidbdaa
