/- The program's behind, Read, ReadSigned. Conditions: the slice reads as bytes. -/
import Derived.Test.YtdboaogdanahkaaVarD
namespace Go.Proofs.Ytdboaogdanahkaa
set_option linter.unusedVariables false
set_option linter.unusedSimpArgs false
open Go Go.RowKit
def l8Ren : Go.Shelf.Ren := ⟨fun | 126 => 75 | n => n, fun | 3 => 3 | 5 => 5 | 9 => 9 | n => n, fun | n => n⟩
theorem l8Lays : Go.Proofs.Lays.n126 Try.prog l8Ren := {
  mixed := lzLays.mixed
  f126 := by kernel_rfl
  t3 := lzLays.t3
  a3 := lzLays.a3
  z3 := lzLays.z3
  v3 := lzLays.v3
  t5 := lzLays.t5
  a5 := lzLays.a5
  z5 := lzLays.z5
  v5 := lzLays.v5
  t9 := lzLays.t9
  a9 := lzLays.a9
  z9 := lzLays.z9
  v9 := lzLays.v9 }
theorem p_len8 (x : Nat) (w : World) (h : x < 256) : Calls Try.prog 75 #[.int .u8 (x : Int)] w (RetSame (.int .i64 (Lib.bitLen x : Int)) w) := by
  refine (Go.Proofs.Any.bits_Len8 (P := Try.prog) (ρ := l8Ren) l8Lays (x : Int) w (by omega) (by omega)).mono ?_
  rintro e w' ⟨rfl, rfl⟩
  exact ⟨by rw [Int.toNat_natCast], rfl⟩
theorem bl8 (x : Nat) (h : x < 128) : Lib.bitLen x ≤ 7 ∧ x < 2 ^ Lib.bitLen x := by
  obtain ⟨a, b, c⟩ := bitLen_spec x (by omega)
  refine ⟨?_, b⟩
  by_cases h0 : x = 0
  · subst h0; decide +kernel
  · obtain ⟨d, e⟩ := c h0
    rcases Nat.lt_or_ge (Lib.bitLen x) 8 with h | h
    · omega
    · have : 2 ^ 7 ≤ 2 ^ (Lib.bitLen x - 1) := Nat.pow_le_pow_right (by omega) (by omega)
      omega
/-- Groups are those of a number of so many bits. -/
def okG (width : Nat) (g : List Nat) : Bool := !(decide (g.getLastD 0 = 0) && decide (1 < g.length)) && decide (7 * (g.length - 1) + Lib.bitLen (g.getLastD 0) ≤ width)
/-- The index behind the groups, and the error. -/
def bhd (l : List Nat) (at_ : Int) (width most : Nat) : Int × Int :=
  if at_ < 0 ∨ (l.length : Int) < at_ then (0, 2)
  else match scanG most (l.drop at_.toNat) with
    | none => (0, if l.length - at_.toNat < most then 4 else 5)
    | some g => if okG width g then (at_ + g.length, 0) else (0, 5)
theorem run_mid (A : Option Addr) (n a e cap : Nat) (hk : a ≤ e) (he : e ≤ cap) (w : World) : (Instr.slice 22 (.slice A n cap) (some (.int .i64 (a : Int))) (some (.int .i64 (e : Int))) none).run Try.prog w = .ok (.slice (if cap = a then A else A.map (·.add (a * 1))) (e - a) (cap - a)) w := by
  have hE : Try.prog.elem 22 = 5 := by kernel_rfl
  have hz := Try.sizeOf5
  rw [run_slice_lh w 22 A n cap (by kernel_rfl) .i64 .i64 a e (by omega) (by omega) (by omega), hE, hz]
  simp [Result.andThen, sliced]
theorem okG_form {width j x : Nat} {g : List Nat} (hl : g.length = j + 1) (hx : g.getLastD 0 = x) : okG width g = (!(decide (x = 0) && decide (0 < j)) && decide (7 * j + Lib.bitLen x ≤ width)) := by
  unfold okG
  rw [hl, hx]
  have e1 : decide (1 < j + 1) = decide (0 < j) := by
    by_cases h : 0 < j
    · rw [decide_eq_true h, decide_eq_true (by omega)]
    · rw [decide_eq_false h, decide_eq_false (by omega)]
  rw [e1, Nat.add_sub_cancel]
theorem last_take {l : List Nat} {j : Nat} (h : j < l.length) : (l.take (j + 1)).getLastD 0 = l.getD j 0 := by
  rw [take_succ h]; simp
set_option maxRecDepth 100000 in
set_option maxHeartbeats 1600000 in
theorem p_behind (A : Option Addr) (c cap : Nat) (l : List Nat) (at_ : Int) (width most : Nat) (W : World) (hb : BytesAt W A l) (hc : l.length = c) (hcap : c ≤ cap) (hcap2 : c ≤ 4611686018427387904) (hat : I64 at_) (hw : width ≤ 300) (hmost : most ≤ 50) (hm : max 1 (((width : Int) + 7 - 1) / 7) = (most : Int)) (r1 r2 : Int) (hr : bhd l at_ width most = (r1, r2)) :
    Calls Try.prog 47 #[.slice A c cap, .int .i64 at_, .int .i64 (width : Int)] W (RetSame (.tuple #[.int .i64 r1, .int .i64 r2]) W) := by
  have KG : Hid (∀ w, Calls Try.prog 54 #[.int .i64 (width : Int)] w (RetSame (.int .i64 (most : Int)) w)) := fun w => p_groups _ _ w (by omega) (by omega) hm
  clear hm
  obtain ⟨a1, a2⟩ := hat
  by_cases h1 : at_ < 0 ∨ (c : Int) < at_
  · unfold bhd at hr
    rw [hc, if_pos h1] at hr
    obtain ⟨rfl, rfl⟩ := Prod.mk.inj hr
    by_cases h0 : at_ < 0
    · have d0 : decide (at_ < 0) = true := decide_eq_true h0
      clear h1
      go_enter Try.func47, Try.ntmps47
      go_wp2_with fail
      go_ret2
      exact ⟨rfl, rfl⟩
    · have d0 : decide (at_ < 0) = false := decide_eq_false h0
      have h2 : (c : Int) < at_ := by omega
      have d1 : decide ((c : Int) < at_) = true := decide_eq_true h2
      clear h1
      go_enter Try.func47, Try.ntmps47
      go_wp2_with fail
      go_ret2
      exact ⟨rfl, rfl⟩
  · have h0 : ¬ at_ < 0 := by omega
    obtain ⟨a, rfl⟩ := Int.eq_ofNat_of_zero_le (show 0 ≤ at_ by omega)
    have hac : a ≤ c := by omega
    have hr' : (match scanG most (l.drop a) with | none => (0, if c - a < most then 4 else 5) | some g => if okG width g then ((a : Int) + g.length, 0) else (0, 5)) = (r1, r2) := by
      unfold bhd at hr
      rw [hc, if_neg h1, Int.toNat_natCast] at hr
      exact hr
    obtain ⟨D, hD⟩ : ∃ D, l.drop a = D := ⟨_, rfl⟩
    obtain ⟨e, he⟩ : ∃ e, min (a + most) c = e := ⟨_, rfl⟩
    have hmin : min ((a : Int) + (most : Int)) (c : Int) = (e : Int) := by omega
    have hae : a ≤ e := by omega
    have hec : e ≤ c := by omega
    have hs := run_mid A c a e cap hae (by omega)
    have hbs := (hb.drop a cap (by omega)).take (e - a)
    obtain ⟨A2, hA2⟩ : ∃ A2, (if cap = a then A else A.map (·.add (a * 1))) = A2 := ⟨_, rfl⟩
    have hDl : D.length = c - a := by rw [← hD, List.length_drop, hc]
    rw [hA2] at hs hbs
    rw [hD] at hbs hr'
    have hlen : (D.take (e - a)).length = e - a := by rw [List.length_take, hDl]; omega
    have hget : ∀ j, j < e - a → (D.take (e - a)).getD j 0 = D.getD j 0 := fun j hj => by
      simp [List.getD_eq_getElem?_getD, List.getElem?_take, hj]
    have nd0 : decide ((a : Int) < 0) = false := decide_eq_false h0
    have n1 : ¬ (c : Int) < (a : Int) := by omega
    have nd1 : decide ((c : Int) < (a : Int)) = false := decide_eq_false n1
    obtain ⟨m, hmm⟩ : ∃ m, e - a = m := ⟨_, rfl⟩
    rw [hmm] at hs hbs hlen hget
    have hHr := hide hr'
    have hHD := hide hDl
    have hHb := hide hbs
    have hHl := hide hlen
    have hHg := hide hget
    have hHm : Hid (m = min most (c - a)) := by
      show _ = _
      omega
    have hem : a + m = e := by omega
    have hHem := hide hem
    have hm50 : m ≤ 50 := by omega
    clear hr hr' hbs hlen hget hDl hA2 hD he hb hc hmm hem h1
    go_enter Try.func47, Try.ntmps47
    go_wp2_with (go_at_call 54; (with_reducible refine (KG.out _).mono ?_); rintro e w1 ⟨rfl, rfl⟩)
    go_loop [31] (fun i => ∃ j : Nat, j ≤ m ∧ i = .int .i64 j ∧ Hid (∀ i, i < j → 128 ≤ D.getD i 0)) (fun i => m - (intOf i).toNat)
    case atStart => exact ⟨0, by omega, rfl, fun i h => by omega⟩
    case round =>
      obtain ⟨j, hj, rfl, HI⟩ := hrel
      by_cases hlt : j < m
      · obtain ⟨b, off, rfl, hbW, hcl⟩ := hHb.out.2.2 (by rw [hHl.out]; omega)
        have d1 := hcl j (by rw [hHl.out]; exact hlt)
        rw [hHg.out j hlt] at d1
        have hx256 : D.getD j 0 < 256 := by rw [← hHg.out j hlt]; exact hHb.out.1.get j
        obtain ⟨x, hx⟩ : ∃ x, D.getD j 0 = x := ⟨_, rfl⟩
        rw [hx] at d1 hx256
        have Hx := hide hx
        clear hcl hx hbW
        by_cases h128 : 128 ≤ x
        · go_wp2_with fail
          go_round
          case rel => exact ⟨j + 1, by omega, by go_num, fun i hi => by
            rcases Nat.lt_or_ge i j with h | h
            · exact HI.out i h
            · obtain rfl : i = j := by omega
              rw [Hx.out]; exact h128⟩
          case measure => simp [intOf]; omega
        · have hjD : j < D.length := by have := hHD.out; have := hHm.out; omega
          have hsc := scanG_at most D j (by have := hHm.out; omega) hjD (by rw [Hx.out]; omega) HI.out
          have hfin := hHr.out
          rw [hsc] at hfin
          simp only [okG_form (g := D.take (j + 1)) (width := width) (j := j) (x := x) (by rw [List.length_take]; omega) (by rw [last_take hjD]; exact Hx.out), List.length_take] at hfin
          rw [show min (j + 1) D.length = j + 1 by omega] at hfin
          have hbl := bl8 x (by omega)
          have KL : Hid (∀ w, Calls Try.prog 75 #[.int .u8 (x : Int)] w (RetSame (.int .i64 (Lib.bitLen x : Int)) w)) := fun w => p_len8 x w hx256
          obtain ⟨y, hy⟩ : ∃ y, Lib.bitLen x = y := ⟨_, rfl⟩
          rw [hy] at hfin hbl KL
          have hy7 := hbl.1
          have hxn : ¬ (128 : Int) ≤ (x : Int) := by omega
          clear hbl hy hsc HI
          by_cases hz : x = 0 ∧ 0 < j
          · obtain ⟨hz1, hz2⟩ := hz
            have q1 : ((x : Int) == 0) = true := beq_iff_eq.2 (by omega)
            rw [decide_eq_true hz1, decide_eq_true hz2] at hfin
            obtain ⟨rfl, rfl⟩ : 0 = r1 ∧ 5 = r2 := by simpa using hfin
            have q2 : (0 : Int) < (j : Int) := by omega
            clear hfin hz1
            go_wp2_with (go_at_call 75; (with_reducible refine (KL.out _).mono ?_); rintro e w1 ⟨rfl, rfl⟩)
            go_ret2
            exact ⟨rfl, rfl⟩
          · have hzb : (!(decide (x = 0) && decide (0 < j))) = true := by
              by_cases h : x = 0
              · rw [decide_eq_true h, decide_eq_false (by omega)]; rfl
              · rw [decide_eq_false h]; rfl
            rw [hzb] at hfin
            clear hzb
            have fin1 : Hid (7 * j + y ≤ width → (a : Int) + (j : Int) + 1 = r1 ∧ 0 = r2) := fun h => by
              rw [decide_eq_true h] at hfin
              have := Prod.mk.inj (show ((a : Int) + ((j + 1 : Nat) : Int), (0 : Int)) = (r1, r2) from hfin)
              exact ⟨by omega, this.2⟩
            have fin2 : Hid (¬ 7 * j + y ≤ width → 0 = r1 ∧ 5 = r2) := fun h => by
              rw [decide_eq_false h] at hfin
              exact Prod.mk.inj (show ((0 : Int), (5 : Int)) = (r1, r2) from hfin)
            clear hfin
            by_cases h0x : x = 0
            · have q1 : ((x : Int) == 0) = true := beq_iff_eq.2 (by omega)
              have q2 : ¬ (0 : Int) < (j : Int) := by omega
              have HZ := hide h0x
              clear hz h0x
              by_cases hwd : 7 * j + y ≤ width
              · obtain ⟨rfl, rfl⟩ := fin1.out hwd
                have q3 : ¬ (width : Int) < (j : Int) * 7 + (y : Int) := by omega
                have ej : (a : Int) + (j : Int) + 1 = (a : Int) + 1 := by omega
                rw [ej]
                clear ej
                clear fin1 fin2
                go_wp2_with (go_at_call 75; (with_reducible refine (KL.out _).mono ?_); rintro e w1 ⟨rfl, rfl⟩)
                go_ret2
                exact ⟨rfl, rfl⟩
              · obtain ⟨rfl, rfl⟩ := fin2.out hwd
                have q3 : (width : Int) < (j : Int) * 7 + (y : Int) := by omega
                clear fin1 fin2
                go_wp2_with (go_at_call 75; (with_reducible refine (KL.out _).mono ?_); rintro e w1 ⟨rfl, rfl⟩)
                go_ret2
                exact ⟨rfl, rfl⟩
            · have q1 : ((x : Int) == 0) = false := beq_eq_false_iff_ne.2 (by omega)
              have HZ := hide h0x
              clear hz h0x
              by_cases hwd : 7 * j + y ≤ width
              · obtain ⟨rfl, rfl⟩ := fin1.out hwd
                have q3 : ¬ (width : Int) < (j : Int) * 7 + (y : Int) := by omega
                clear fin1 fin2
                go_wp2_with (go_at_call 75; (with_reducible refine (KL.out _).mono ?_); rintro e w1 ⟨rfl, rfl⟩)
                go_ret2
                exact ⟨rfl, rfl⟩
              · obtain ⟨rfl, rfl⟩ := fin2.out hwd
                have q3 : (width : Int) < (j : Int) * 7 + (y : Int) := by omega
                clear fin1 fin2
                go_wp2_with (go_at_call 75; (with_reducible refine (KL.out _).mono ?_); rintro e w1 ⟨rfl, rfl⟩)
                go_ret2
                exact ⟨rfl, rfl⟩
      · obtain rfl : j = m := by omega
        have hsc : scanG most D = none := scanG_none most D (fun i hi h2 => HI.out i (by have := hHm.out; have := hHD.out; omega))
        have hfin := hHr.out
        rw [hsc] at hfin
        obtain ⟨rfl, e2⟩ := Prod.mk.inj (show ((0 : Int), (if c - a < most then (4 : Int) else 5)) = (r1, r2) from hfin)
        clear hfin hsc
        by_cases hcm : c - a < most
        · rw [if_pos hcm] at e2
          subst e2
          have q3 : (c : Int) - (a : Int) < (most : Int) := by omega
          go_wp2_with fail
          go_ret2
          exact ⟨rfl, rfl⟩
        · rw [if_neg hcm] at e2
          subst e2
          have q3 : ¬ (c : Int) - (a : Int) < (most : Int) := by omega
          go_wp2_with fail
          go_ret2
          exact ⟨rfl, rfl⟩
end Go.Proofs.Ytdboaogdanahkaa
