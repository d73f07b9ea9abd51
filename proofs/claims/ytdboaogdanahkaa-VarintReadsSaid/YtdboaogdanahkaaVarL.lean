/- The program's AppendWide. Conditions: the slice reads as at most 2^47 - 64 bytes; the cells stand for a number. -/
import Derived.Test.YtdboaogdanahkaaVarK
namespace Go.Proofs.Ytdboaogdanahkaa
set_option linter.unusedVariables false
set_option linter.unusedSimpArgs false
open Go Go.RowKit
theorem mag4_lt (a b c d : Nat) (ha : a < 18446744073709551616) (hb : b < 18446744073709551616) (hc : c < 18446744073709551616) (hd : d < 18446744073709551616) : mag4 a b c d < 2 ^ 256 := by
  unfold mag4 val val val val val
  rw [show (2 : Nat) ^ 256 = 115792089237316195423570985008687907853269984665640564039457584007913129639936 by decide]
  omega
theorem cod_lt {s : Bool} {a b c d : Nat} {z : Int} (hz : IsW s a b c d z) : cod z < 2 ^ 257 := by
  have h := mag4_lt a b c d hz.1 hz.2.1 hz.2.2.1 hz.2.2.2.1
  have h5 := hz.2.2.2.2
  have e : z.natAbs = mag4 a b c d := by cases s <;> simp at h5 <;> omega
  unfold cod
  rw [e, show (2 : Nat) ^ 257 = 2 * 2 ^ 256 by decide +kernel]
  split <;> omega
theorem len_groups {C s k : Nat} (hk : (encB C).length = k + 1) (h1 : C < 2 ^ s) (h2 : C ≠ 0 → 1 ≤ s ∧ 2 ^ (s - 1) ≤ C) (h3 : C = 0 → s = 0) : max 1 (((s : Int) + 7 - 1) / 7) = (k : Int) + 1 := by
  by_cases h : C = 0
  · have e := h3 h
    subst e
    subst h
    rw [encB_small (by omega)] at hk
    have : k = 0 := by simpa using hk.symm
    omega
  · obtain ⟨a1, a2⟩ := h2 h
    obtain ⟨t, rfl⟩ : ∃ t, s = t + 1 := ⟨s - 1, by omega⟩
    have := size_groups (s := t) (by simpa using a2) h1
    omega
set_option maxRecDepth 100000 in
set_option maxHeartbeats 1600000 in
theorem p_wappend (A : Option Addr) (n cap : Nat) (l : List Nat) (s : Bool) (a b c d : Nat) (z : Int) (W : World) (hz : IsW s a b c d z) (hb : BytesAt W A l) (hc : l.length = n) (hlen : n ≤ 140737488355264) :
    Calls Try.prog 24 #[.slice A n cap, .agg #[.bool s, .int .u64 (a : Int), .int .u64 (b : Int), .int .u64 (c : Int), .int .u64 (d : Int)]] W (OwnRet (l ++ encB (cod z)) W) := by
  have hC257 := cod_lt hz
  have hC : cod z < 18446744073709551616 ^ 5 := Nat.lt_trans hC257 (by decide +kernel)
  obtain ⟨k, hk⟩ : ∃ k, (encB (cod z)).length = k + 1 := ⟨(encB (cod z)).length - 1, by have := encB_pos (cod z); omega⟩
  have hk36 : k ≤ 36 := by
    have := encB_length_le (cod z) 36 (Nat.lt_trans hC257 (by decide +kernel))
    omega
  have e := encB_grs (cod z) k hk
  have KC : Hid (∀ w, Calls Try.prog 53 #[.agg #[.bool s, .int .u64 (a : Int), .int .u64 (b : Int), .int .u64 (c : Int), .int .u64 (d : Int)]] w (Ret (.agg (ag5 (cod z))) w)) := fun w => p_codeOf s a b c d z w hz
  obtain ⟨C, hCC⟩ : ∃ C, cod z = C := ⟨_, rfl⟩
  rw [hCC] at hC hk e KC ⊢
  have KL : Hid (∀ w, Calls Try.prog 55 #[.agg (ag5 C)] w (LenRet C w)) := fun w => p_length C w hC
  have KG : Hid (∀ (t : Nat) w, t ≤ 320 → max 1 (((t : Int) + 7 - 1) / 7) = (k : Int) + 1 → Calls Try.prog 54 #[.int .i64 (t : Int)] w (RetSame (.int .i64 ((k : Int) + 1)) w)) := fun t w h1 h2 => p_groups _ _ w (by omega) (by omega) h2
  have KA : Hid (∀ g w, BytesAt w A l → StC C g 0 w → Calls Try.prog 48 #[.slice A n cap, .int .i64 ((k : Int) + 1), .func (.func 56) #[] #[.pointer (some ⟨g, 0, none⟩)]] w (OwnUpd g (l ++ encB C) w)) := fun g w hbw hS => by
    have := p_ag 56 g (StC C g) (gr C) A n cap k l w (yields2 C g hC) hS hbw hc hlen hk36
    rw [qs_grs, ← e] at this
    exact this
  have hmf : ∀ (fn : Fn) (first cap : Array Value) (w : World), (Instr.makeFunc fn first cap).run Try.prog w = .ok (.func fn first cap) w := fun _ _ _ _ => rfl
  have HL : Hid (∀ t : Nat, C < 2 ^ t → (C ≠ 0 → 1 ≤ t ∧ 2 ^ (t - 1) ≤ C) → (C = 0 → t = 0) → max 1 (((t : Int) + 7 - 1) / 7) = (k : Int) + 1) := fun t h1 h2 h3 => len_groups hk h1 h2 h3
  have P1 := hide (Blk.new W 32 #[.bool s, .int .u64 (a : Int), .int .u64 (b : Int), .int .u64 (c : Int), .int .u64 (d : Int)])
  have E1 := hide (ext_alloc W (.cells #[.bool s, .int .u64 (a : Int), .int .u64 (b : Int), .int .u64 (c : Int), .int .u64 (d : Int)] 32))
  obtain ⟨W1, hW1⟩ : ∃ W1, W.alloc (.cells #[.bool s, .int .u64 (a : Int), .int .u64 (b : Int), .int .u64 (c : Int), .int .u64 (d : Int)] 32) = W1 := ⟨_, rfl⟩
  rw [hW1] at P1 E1
  have HW1 := hide hW1
  have HB := hide hb
  clear hk e hC hCC hC257 hk36 hc hb hz hW1
  go_enter Try.func24, Try.ntmps24
  go_upto_region 1 with fail
  rw [HW1.out]
  go_upto_region 2 with (first
    | (refine wpList_load_row rfl 32 (.tmp 3) rfl _ rfl 32 _ (0, 0) _ P1.out Try.underlying32 rfl (by rw [infoW]; rfl) ?_)
    | (go_at_call 53; (with_reducible refine (KC.out _).mono ?_); rintro e w2 ⟨rfl, hE2⟩; have E2 := hide (Ext.trans E1.out hE2); clear hE2)
    | (refine wpList_store_row rfl 82 (.tmp 5) (.tmp 7) rfl w2.heap.size (ag5 C) rfl rfl 82 z5c (Blk.new w2 _ _) (by rw [info5, ag5_size]) (by rw [ag5_size]; rfl) (ag5_one _) ?_))
  have P2 := (Blk.new w2 82 z5c).setRow (ag5 C)
  have E3 := below_row' (g := w2.heap.size) (Ext.trans E2.out (ext_alloc w2 (.cells z5c 82))) E2.out.size (ag5 C)
  have hg := hide E2.out.size
  unfold z5c at P2 E3
  obtain ⟨w3, hw3⟩ : ∃ w3, (w2.alloc (.cells #[.int .u64 0, .int .u64 0, .int .u64 0, .int .u64 0, .int .u64 0] 82)).setRow w2.heap.size (ag5 C) = w3 := ⟨_, rfl⟩
  rw [hw3] at P2 E3 ⊢
  obtain ⟨g, hgg⟩ : ∃ g, w2.heap.size = g := ⟨_, rfl⟩
  rw [hgg] at P2 hg ⊢
  have HS : Hid (StC C g 0 w3) := by
    show StC C g 0 w3
    unfold StC; simpa using P2
  have P3 := hide P2
  have E := hide E3
  clear hw3 hgg P2 E3 P1 E1 E2 HW1 KC
  go_wp2_with (first
    | (refine wpList_load_row rfl 82 (.tmp 5) rfl g rfl 82 (ag5 C) (0, 0) _ P3.out Try.underlying82 rfl (by rw [info5, ag5_size]) ?_)
    | (go_at_call 55; (with_reducible refine (KL.out _).mono ?_); rintro e w4 ⟨t, rfl, t1, t2, t3, t4, hE4⟩; have KT := hide (KG.out t · t1 (HL.out t t2 t3 t4)); have EE := hide (Ext.trans E.out hE4); have HS4 : Hid (StC C g 0 w4) := Blk.ext (cs := ag5 (C / 128 ^ 0)) HS.out hE4; clear t1 t2 t3 t4 hE4)
    | (go_at_call 54; (with_reducible refine (KT.out _).mono ?_); rintro e w5 ⟨rfl, rfl⟩)
    | (go_at_call 48; (with_reducible refine (KA.out g _ (HB.out.ext EE.out) HS4.out).mono ?_); rintro e w6 ⟨u, rfl, hO, hU⟩))
  go_ret
  exact ⟨_, rfl, hO.less EE.out.size, Upd.ext hU EE.out hg.out⟩
end Go.Proofs.Ytdboaogdanahkaa
