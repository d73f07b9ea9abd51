/- The reference's AppendWide of layer 5. Conditions: the slice reads as at most 2^47 - 64 bytes; the cells stand for a number. -/
import Derived.Test.YtdboaogdanahkaaVarL
import Derived.Test.YtdboaogdanahkaaFixA
import Derived.Test.YtdboaogdanahkaaMagK
import Derived.Test.YtdboaogdanahkaaDeclV
namespace Go.Proofs.Ytdboaogdanahkaa
set_option linter.unusedVariables false
set_option linter.unusedSimpArgs false
open Go Go.RowKit
attribute [local go_sem] qUpon putAll slotV
theorem Blk.grown {w w' : World} {row : Option Nat} {g : Nat} {t : TypeId} {cs : Array Value} (h : Blk w g t cs) (hG : w.grownBy w' row) (hn : ∀ k, row = some k → k ≠ g) : Blk w' g t cs :=
  (hG.block g h.lt (fun e => hn g e.symm rfl)).trans h
theorem d_uns {n : Nat} (h : n < 18446744073709551616) (w : World) : Calls Try.prog 36 #[.agg #[.bool (sg (n : Int)), .int .u64 (l0 (n : Int) : Int), .int .u64 (l1 (n : Int) : Int), .int .u64 (l2 (n : Int) : Int), .int .u64 (l3 (n : Int) : Int)]] w (Ret (.tuple #[.int .u64 (n : Int), .bool true]) w) :=
  (ref_unsigned _ _ _ _ _ (n : Int) w (isC_of (by unfold F256; omega)).1).mono fun _ _ k => by
    rw [if_pos ⟨by omega, by omega⟩, decide_eq_true ⟨by omega, by omega⟩] at k
    exact k
def lenV : Value → Nat | .slice _ n _ => n | _ => 0
theorem f_nat {M N : Nat} (h : F256 (M : Int)) (hN : N ≤ M) : F256 (N : Int) := by unfold F256 at h ⊢; omega
theorem sg_nat (M : Nat) : sg (M : Int) = false := by unfold sg; rw [decide_eq_false]; omega
theorem fix_mag {s : Bool} {a b c d : Nat} {z : Int} (h : IsW s a b c d z) : ∃ M : Nat, z.natAbs = M ∧ F256 (M : Int) ∧ a = l0 (M : Int) ∧ b = l1 (M : Int) ∧ c = l2 (M : Int) ∧ d = l3 (M : Int) := by
  obtain ⟨ha, hb, hc, hd, h5⟩ := h
  have e : z.natAbs = mag4 a b c d := by cases s <;> simp at h5 <;> omega
  obtain ⟨-, x⟩ := isC_fix (s := false) (a := a) (b := b) (c := c) (d := d) (z := (mag4 a b c d : Int)) ⟨⟨ha, hb, hc, hd, rfl⟩, fun h => by cases h⟩
  exact ⟨mag4 a b c d, e, by unfold F256; have := mag4_lt a b c d ha hb hc hd; simpa using this, x⟩
set_option maxHeartbeats 1600000 in
set_option maxRecDepth 100000 in
theorem v_awide (A : Option Addr) (n cap : Nat) (l : List Nat) (s : Bool) (a b c d : Nat) (z : Int) (W : World) (hz : IsW s a b c d z) (h : BytesAt W A l) (hc : l.length = n) (hlen : n ≤ 140737488355264) :
    Calls Try.prog 11 #[.slice A n cap, .agg #[.bool s, .int .u64 (a : Int), .int .u64 (b : Int), .int .u64 (c : Int), .int .u64 (d : Int)]] W (OwnRet (l ++ encB (cod z)) W) := by
  have hC257 := cod_lt hz
  have m1 : (encB (cod z)).length ≤ 37 := encB_length_le (cod z) 36 (Nat.lt_trans hC257 (by decide +kernel))
  have KS : Hid (∀ w, Calls Try.prog 37 #[.agg #[.bool s, .int .u64 (a : Int), .int .u64 (b : Int), .int .u64 (c : Int), .int .u64 (d : Int)]] w (Ret (.int .i64 z.sign) w)) := fun w => ref_sign s a b c d z w hz
  obtain ⟨M, hM, hF, rfl, rfl, rfl, rfl⟩ := fix_mag hz
  have KO : Hid (∀ w, Calls Try.prog 35 #[.int .i64 64] w (Ret (.agg #[.bool (sg 64), .int .u64 (l0 64 : Int), .int .u64 (l1 64 : Int), .int .u64 (l2 64 : Int), .int .u64 (l3 64 : Int)]) w)) := fun w => d_ofi (by omega) (by omega) w
  have KD : Hid (∀ w, Calls Try.prog 34 #[.agg #[.bool (sg (M : Int)), .int .u64 (l0 (M : Int) : Int), .int .u64 (l1 (M : Int) : Int), .int .u64 (l2 (M : Int) : Int), .int .u64 (l3 (M : Int) : Int)], .agg #[.bool (sg 64), .int .u64 (l0 64 : Int), .int .u64 (l1 64 : Int), .int .u64 (l2 64 : Int), .int .u64 (l3 64 : Int)]] w (Ret (.tuple #[.agg #[.bool (sg ((M / 64 : Nat) : Int)), .int .u64 (l0 ((M / 64 : Nat) : Int) : Int), .int .u64 (l1 ((M / 64 : Nat) : Int) : Int), .int .u64 (l2 ((M / 64 : Nat) : Int) : Int), .int .u64 (l3 ((M / 64 : Nat) : Int) : Int)], .agg #[.bool (sg ((M % 64 : Nat) : Int)), .int .u64 (l0 ((M % 64 : Nat) : Int) : Int), .int .u64 (l1 ((M % 64 : Nat) : Int) : Int), .int .u64 (l2 ((M % 64 : Nat) : Int) : Int), .int .u64 (l3 ((M % 64 : Nat) : Int) : Int)], .bool true]) w)) := fun w => d_div hF (by unfold F256; omega) (by omega) (by omega) (by omega) w
  rw [sg_nat M] at KD
  have P0 := Blk.new W 32 #[.bool s, .int .u64 (l0 (M : Int) : Int), .int .u64 (l1 (M : Int) : Int), .int .u64 (l2 (M : Int) : Int), .int .u64 (l3 (M : Int) : Int)]
  have E0 := ext_alloc W (.cells #[.bool s, .int .u64 (l0 (M : Int) : Int), .int .u64 (l1 (M : Int) : Int), .int .u64 (l2 (M : Int) : Int), .int .u64 (l3 (M : Int) : Int)] 32)
  have z0 : (W.alloc (.cells #[.bool s, .int .u64 (l0 (M : Int) : Int), .int .u64 (l1 (M : Int) : Int), .int .u64 (l2 (M : Int) : Int), .int .u64 (l3 (M : Int) : Int)] 32)).heap.size = W.heap.size + 1 := by simp
  obtain ⟨W0, hW0⟩ : ∃ w, W.alloc (.cells #[.bool s, .int .u64 (l0 (M : Int) : Int), .int .u64 (l1 (M : Int) : Int), .int .u64 (l2 (M : Int) : Int), .int .u64 (l3 (M : Int) : Int)] 32) = w := ⟨_, rfl⟩
  rw [hW0] at P0 E0 z0
  have O0 : OwnB W0.heap.size (W0.alloc (.cells #[] 5)) (.slice (some ⟨W0.heap.size, 0, none⟩) 0 0) [] := own_of (m := []) (Nat.le_refl _) (heap_alloc_new W0 _) rfl rfl (by omega) IsB.nil
  have E1 := ext_alloc W0 (.cells #[] 5)
  have H1 := (h.ext E0).ext E1
  have B1 : W0.heap.size ≤ (W0.alloc (.cells #[] 5)).heap.size := E1.size
  have L1 : ([] : List Nat).length + l.length ≤ 140737488355328 := by simp; omega
  have HW0 := hide hW0
  have HP0 := hide P0
  have HE0 := hide E0
  have Hz0 := hide z0
  have HC := hide hc
  have hCM : cod z = 2 * M + (if z < 0 then 1 else 0) := by unfold cod; rw [hM]
  have HCM := hide hCM
  have HF := hide hF
  clear hW0 P0 E0 z0 h hc hF hM hz hCM
  go_enter Try.func11, Try.ntmps11
  go_upto_region 1 with fail
  rw [HW0.out]
  go_upto_region 2 with (at_builtin; refine wl_append8 rfl (.tmp 14) (.tmp 15) rfl W0.heap.size _ [] l rfl O0 A n cap rfl H1 HC.out L1 B1 ?_; intro v1 w1 hO hG _)
  rw [List.nil_append] at hO
  have E2 : Ext W0 w1 := below_grown E1 (Nat.le_refl _) O0 hG
  have HO := hide hO
  have HP := hide (HP0.out.ext E2)
  have HE2 := hide E2
  clear O0 E1 H1 B1 L1 hO hG E2
  obtain ⟨p0, p1, p2, p3, p4, _⟩ := five_cells (show Box w1 W.heap.size s (l0 (M : Int)) (l1 (M : Int)) (l2 (M : Int)) (l3 (M : Int)) from HP.out)
  go_upto_region 4 with fail
  have P6 := Blk.new w1 32 #[.bool false, .int .u64 (l0 (M : Int) : Int), .int .u64 (l1 (M : Int) : Int), .int .u64 (l2 (M : Int) : Int), .int .u64 (l3 (M : Int) : Int)]
  have E6 := ext_alloc w1 (.cells #[.bool false, .int .u64 (l0 (M : Int) : Int), .int .u64 (l1 (M : Int) : Int), .int .u64 (l2 (M : Int) : Int), .int .u64 (l3 (M : Int) : Int)] 32)
  obtain ⟨w2, hw2⟩ : ∃ w, w1.alloc (.cells #[.bool false, .int .u64 (l0 (M : Int) : Int), .int .u64 (l1 (M : Int) : Int), .int .u64 (l2 (M : Int) : Int), .int .u64 (l3 (M : Int) : Int)] 32) = w := ⟨_, rfl⟩
  rw [hw2] at P6 E6 ⊢
  obtain ⟨g6, hg6⟩ : ∃ g, w1.heap.size = g := ⟨_, rfl⟩
  rw [hg6] at P6 ⊢
  have HO := hide (HO.out.ext E6)
  have HP := hide (HP.out.ext E6)
  have HE2 := hide (Ext.trans HE2.out E6)
  clear hw2 hg6 E6 p0 p1 p2 p3 p4
  obtain ⟨q, hq⟩ : ∃ q, M / 64 = q := ⟨_, rfl⟩
  obtain ⟨r, hr⟩ : ∃ r, M % 64 = r := ⟨_, rfl⟩
  rw [hq, hr] at KD
  have Hq := hide hq
  have Hr := hide hr
  clear hq hr
  have P6 := hide P6
  refine wp_decl [.q, .q, .q, .q, .q, .q, .q, .al, .al, .st 7, .st 8, .q] [.agg #[.bool false, .int .u64 (l0 (M : Int) : Int), .int .u64 (l1 (M : Int) : Int), .int .u64 (l2 (M : Int) : Int), .int .u64 (l3 (M : Int) : Int)], .agg #[.bool (sg 64), .int .u64 (l0 64 : Int), .int .u64 (l1 64 : Int), .int .u64 (l2 64 : Int), .int .u64 (l3 64 : Int)], .tuple #[.agg #[.bool (sg (q : Int)), .int .u64 (l0 (q : Int) : Int), .int .u64 (l1 (q : Int) : Int), .int .u64 (l2 (q : Int) : Int), .int .u64 (l3 (q : Int) : Int)], .agg #[.bool (sg (r : Int)), .int .u64 (l0 (r : Int) : Int), .int .u64 (l1 (r : Int) : Int), .int .u64 (l2 (r : Int) : Int), .int .u64 (l3 (r : Int) : Int)], .bool true], .tuple #[.agg #[.bool (sg (q : Int)), .int .u64 (l0 (q : Int) : Int), .int .u64 (l1 (q : Int) : Int), .int .u64 (l2 (q : Int) : Int), .int .u64 (l3 (q : Int) : Int)], .agg #[.bool (sg (r : Int)), .int .u64 (l0 (r : Int) : Int), .int .u64 (l1 (r : Int) : Int), .int .u64 (l2 (r : Int) : Int), .int .u64 (l3 (r : Int) : Int)], .bool true], .agg #[.bool (sg (q : Int)), .int .u64 (l0 (q : Int) : Int), .int .u64 (l1 (q : Int) : Int), .int .u64 (l2 (q : Int) : Int), .int .u64 (l3 (q : Int) : Int)], .agg #[.bool (sg (r : Int)), .int .u64 (l0 (r : Int) : Int), .int .u64 (l1 (r : Int) : Int), .int .u64 (l2 (r : Int) : Int), .int .u64 (l3 (r : Int) : Int)], .bool true, undef, undef, undef, undef, .bool true] (fun _ => (.cells #[.bool false, .int .u64 0, .int .u64 0, .int .u64 0, .int .u64 0] 32 (0, 0))) (fun i => match i with | 9 => (.cells #[.bool (sg (q : Int)), .int .u64 (l0 (q : Int) : Int), .int .u64 (l1 (q : Int) : Int), .int .u64 (l2 (q : Int) : Int), .int .u64 (l3 (q : Int) : Int)] 32 (0, 0)) | _ => (.cells #[.bool (sg (r : Int)), .int .u64 (l0 (r : Int) : Int), .int .u64 (l1 (r : Int) : Int), .int .u64 (l2 (r : Int) : Int), .int .u64 (l3 (r : Int) : Int)] 32 (0, 0))) (fun _ => 0) (by kernel_rfl) (by kernel_rfl) (by kernel_rfl) rfl rfl (by simp) (by simp) ?_ ?_
  · refine ⟨?_, ?_, ?_, ?_, ?_, ?_, ?_, ?_, ?_, ?_, ?_, ?_, trivial⟩
    · refine op_q ?uvn0 ?h1n0 ?h2n0 ?h3n0
      case h1n0 => exact rfl
      case uvn0 => exact (.agg #[.bool false, .int .u64 (l0 (M : Int) : Int), .int .u64 (l1 (M : Int) : Int), .int .u64 (l2 (M : Int) : Int), .int .u64 (l3 (M : Int) : Int)])
      case h2n0 => exact rfl
      intro w' hw'
      have P6 := Box.same (show Box w2 g6 false (l0 (M : Int)) (l1 (M : Int)) (l2 (M : Int)) (l3 (M : Int)) from P6.out) hw' (by simp)
      have xP6 := five_cells P6
      go_simp
    · refine op_q ?uvn1 ?h1n1 ?h2n1 ?h3n1
      case h1n1 => exact rfl
      case uvn1 => exact (.agg #[.bool (sg 64), .int .u64 (l0 64 : Int), .int .u64 (l1 64 : Int), .int .u64 (l2 64 : Int), .int .u64 (l3 64 : Int)])
      case h2n1 => exact rfl
      intro w' hw'
      go_simp
      exact KO.out w'
    · refine op_q ?uvn2 ?h1n2 ?h2n2 ?h3n2
      case h1n2 => exact rfl
      case uvn2 => exact (.tuple #[.agg #[.bool (sg (q : Int)), .int .u64 (l0 (q : Int) : Int), .int .u64 (l1 (q : Int) : Int), .int .u64 (l2 (q : Int) : Int), .int .u64 (l3 (q : Int) : Int)], .agg #[.bool (sg (r : Int)), .int .u64 (l0 (r : Int) : Int), .int .u64 (l1 (r : Int) : Int), .int .u64 (l2 (r : Int) : Int), .int .u64 (l3 (r : Int) : Int)], .bool true])
      case h2n2 => exact rfl
      intro w' hw'
      go_simp
      exact KD.out w'
    · refine op_q ?uvn3 ?h1n3 ?h2n3 ?h3n3
      case h1n3 => exact rfl
      case uvn3 => exact (.tuple #[.agg #[.bool (sg (q : Int)), .int .u64 (l0 (q : Int) : Int), .int .u64 (l1 (q : Int) : Int), .int .u64 (l2 (q : Int) : Int), .int .u64 (l3 (q : Int) : Int)], .agg #[.bool (sg (r : Int)), .int .u64 (l0 (r : Int) : Int), .int .u64 (l1 (r : Int) : Int), .int .u64 (l2 (r : Int) : Int), .int .u64 (l3 (r : Int) : Int)], .bool true])
      case h2n3 => exact rfl
      intro w' hw'
      go_simp
    · refine op_q ?uvn4 ?h1n4 ?h2n4 ?h3n4
      case h1n4 => exact rfl
      case uvn4 => exact (.agg #[.bool (sg (q : Int)), .int .u64 (l0 (q : Int) : Int), .int .u64 (l1 (q : Int) : Int), .int .u64 (l2 (q : Int) : Int), .int .u64 (l3 (q : Int) : Int)])
      case h2n4 => exact rfl
      intro w' hw'
      go_simp
    · refine op_q ?uvn5 ?h1n5 ?h2n5 ?h3n5
      case h1n5 => exact rfl
      case uvn5 => exact (.agg #[.bool (sg (r : Int)), .int .u64 (l0 (r : Int) : Int), .int .u64 (l1 (r : Int) : Int), .int .u64 (l2 (r : Int) : Int), .int .u64 (l3 (r : Int) : Int)])
      case h2n5 => exact rfl
      intro w' hw'
      go_simp
    · refine op_q ?uvn6 ?h1n6 ?h2n6 ?h3n6
      case h1n6 => exact rfl
      case uvn6 => exact (.bool true)
      case h2n6 => exact rfl
      intro w' hw'
      go_simp
    · refine op_al ?uzn7 ?h1n7 ?h2n7 ?h3n7
      case h1n7 => exact rfl
      case h2n7 => exact rfl
      intro ρ w'
      go_simp
      rfl
    · refine op_al ?uzn8 ?h1n8 ?h2n8 ?h3n8
      case h1n8 => exact rfl
      case h2n8 => exact rfl
      intro ρ w'
      go_simp
      rfl
    · refine op_st (j := 7) (T := ?uTn9) (p := ?upn9) (x := ?uxn9) ?ufn9 ?uzn9 ?uvn9 ?h1n9 ?h2n9 ?h3n9 ?h4n9 ?h5n9 ?h6n9
      case h1n9 => exact rfl
      case h2n9 => exact rfl
      case ufn9 => exact (.cells #[.bool (sg (q : Int)), .int .u64 (l0 (q : Int) : Int), .int .u64 (l1 (q : Int) : Int), .int .u64 (l2 (q : Int) : Int), .int .u64 (l3 (q : Int) : Int)] 32 (0, 0))
      case uzn9 => exact (.cells #[.bool false, .int .u64 0, .int .u64 0, .int .u64 0, .int .u64 0] 32 (0, 0))
      case uvn9 => exact (.agg #[.bool (sg (q : Int)), .int .u64 (l0 (q : Int) : Int), .int .u64 (l1 (q : Int) : Int), .int .u64 (l2 (q : Int) : Int), .int .u64 (l3 (q : Int) : Int)])
      case h3n9 => exact rfl
      case h4n9 => exact rfl
      case h5n9 => go_simp
      intro ρ w' g' hp hx hz
      exact store_wide rfl hp hx hz
    · refine op_st (j := 8) (T := ?uTn10) (p := ?upn10) (x := ?uxn10) ?ufn10 ?uzn10 ?uvn10 ?h1n10 ?h2n10 ?h3n10 ?h4n10 ?h5n10 ?h6n10
      case h1n10 => exact rfl
      case h2n10 => exact rfl
      case ufn10 => exact (.cells #[.bool (sg (r : Int)), .int .u64 (l0 (r : Int) : Int), .int .u64 (l1 (r : Int) : Int), .int .u64 (l2 (r : Int) : Int), .int .u64 (l3 (r : Int) : Int)] 32 (0, 0))
      case uzn10 => exact (.cells #[.bool false, .int .u64 0, .int .u64 0, .int .u64 0, .int .u64 0] 32 (0, 0))
      case uvn10 => exact (.agg #[.bool (sg (r : Int)), .int .u64 (l0 (r : Int) : Int), .int .u64 (l1 (r : Int) : Int), .int .u64 (l2 (r : Int) : Int), .int .u64 (l3 (r : Int) : Int)])
      case h3n10 => exact rfl
      case h4n10 => exact rfl
      case h5n10 => go_simp
      intro ρ w' g' hp hx hz
      exact store_wide rfl hp hx hz
    · refine op_q ?uvn11 ?h1n11 ?h2n11 ?h3n11
      case h1n11 => exact rfl
      case uvn11 => exact (.bool true)
      case h2n11 => exact rfl
      intro w' hw'
      go_simp
  · intro G w4 hI
    have hS := hI.same
    have E4 := hS.ext' (Ext.refl w2) (by simp)
    have P7 : Box w4 (G 7) (sg (q : Int)) (l0 (q : Int)) (l1 (q : Int)) (l2 (q : Int)) (l3 (q : Int)) := (hI.fulls 9 (List.mem_range.2 (show 9 < 12 by decide)) 7 rfl).2.2
    have P8 : Box w4 (G 8) (sg (r : Int)) (l0 (r : Int)) (l1 (r : Int)) (l2 (r : Int)) (l3 (r : Int)) := (hI.fulls 10 (List.mem_range.2 (show 10 < 12 by decide)) 8 rfl).2.2
    have m7 := (hI.made 7 (List.mem_range.2 (show 7 < 12 by decide)) rfl).1
    have m8 := (hI.made 8 (List.mem_range.2 (show 8 < 12 by decide)) rfl).1
    have n78 : G 7 ≠ G 8 := fun e => by have := hI.apart 7 (List.mem_range.2 (show 7 < 12 by decide)) 8 (List.mem_range.2 (show 8 < 12 by decide)) rfl rfl e; omega
    clear hI hS
    simp only [putAll, slotV, ptrTo, Nat.zero_add, Nat.reduceAdd]
    generalize G 7 = g7 at *
    generalize G 8 = g8 at *
    have HO4 := hide (HO.out.ext E4)
    have HP4 := hide (HP.out.ext E4)
    have HE4 := hide (Ext.trans HE2.out E4)
    have hob : ∀ k, v1.ownBlock = some k → k ≠ g7 ∧ k ≠ g8 := fun k e => by have := (HO.out.1.lt k e).2; omega
    have Hob := hide hob
    have b7 : W0.heap.size ≤ g7 := Nat.le_trans HE2.out.size m7
    have b8 : W0.heap.size ≤ g8 := Nat.le_trans HE2.out.size m8
    have P7 := hide P7
    have P8 := hide P8
    have hrl : r < 64 := by rw [← Hr.out]; omega
    have KU : Hid (∀ w, Calls Try.prog 36 #[.agg #[.bool (sg (r : Int)), .int .u64 (l0 (r : Int) : Int), .int .u64 (l1 (r : Int) : Int), .int .u64 (l2 (r : Int) : Int), .int .u64 (l3 (r : Int) : Int)]] w (Ret (.tuple #[.int .u64 (r : Int), .bool true]) w)) := fun w => d_uns (by omega) w
    obtain ⟨C, hCC⟩ : ∃ C, cod z = C := ⟨_, rfl⟩
    have HCC := hide hCC
    have hM0 := HCM.out
    rw [hCC] at hM0 m1
    have hqr : M = 64 * q + r := by rw [← Hq.out, ← Hr.out]; omega
    clear hob HO HP HE2 E4 P6 KO KD hCC m7 m8
    by_cases hneg : z < 0
    · have q1 : z.sign < 0 := by rw [Int.sign_eq_neg_one_of_neg hneg]; omega
      rw [if_pos hneg] at hM0
      have hx0 : C % 128 = 2 * r + 1 := by omega
      have hq0 : C / 128 = q := by omega
      have X0 := hide hx0
      have Q0 := hide hq0
      clear hx0 hq0 hM0 hqr hneg
      obtain ⟨zs, hzs⟩ : ∃ t, z.sign = t := ⟨_, rfl⟩
      rw [hzs] at q1 KS
      clear hzs
      obtain ⟨d0, d1, d2, d3, d4, _⟩ := five_cells P8.out
      go_upto_region 6 with (go_at_call 36; (with_reducible refine (KU.out _).mono ?_); rintro e w5 ⟨rfl, hE5⟩)
      obtain ⟨p0, p1, p2, p3, p4, _⟩ := five_cells (show Box w5 W.heap.size s (l0 (M : Int)) (l1 (M : Int)) (l2 (M : Int)) (l3 (M : Int)) from HP4.out.ext hE5)
      go_upto_region 9 with (go_at_call 37; (with_reducible refine (KS.out _).mono ?_); rintro e w6 ⟨rfl, hE6⟩)
      have E6 := Ext.trans hE5 hE6
      have P7 := hide (Blk.ext (cs := #[.bool (sg (q : Int)), .int .u64 (l0 (q : Int) : Int), .int .u64 (l1 (q : Int) : Int), .int .u64 (l2 (q : Int) : Int), .int .u64 (l3 (q : Int) : Int)]) P7.out E6)
      have P8 := hide (Blk.ext (cs := #[.bool (sg (r : Int)), .int .u64 (l0 (r : Int) : Int), .int .u64 (l1 (r : Int) : Int), .int .u64 (l2 (r : Int) : Int), .int .u64 (l3 (r : Int) : Int)]) P8.out E6)
      have HO6 := hide (HO4.out.ext E6)
      have HE6 := hide (Ext.trans HE4.out E6)
      clear hE5 hE6 E6 p0 p1 p2 p3 p4 d0 d1 d2 d3 d4 HO4 HE4 HP4 KU KS q1
      have hx1 : Value.int .u8 (2 * (r : Int) + 1) = Value.int .u8 ((C % 128 : Nat) : Int) := congrArg (Value.int .u8) (by rw [X0.out]; omega)
      have hC0 : C < 231584178474632390847141970017375815706539969331281128078915168015826259279872 := by rw [← HCC.out]; exact Nat.lt_of_lt_of_eq hC257 (by decide +kernel)
      rw [hx1]
      clear hx1 X0 hC257
      go_loopw [5, 12] (fun u x wr => ∃ (N : Nat) (p : List Nat) (t : Nat), N < 231584178474632390847141970017375815706539969331281128078915168015826259279872 ∧ x = .int .u8 ((N % 128 : Nat) : Int) ∧ Hid (p ++ encB N = encB C) ∧ Hid (OwnB W0.heap.size wr u (l ++ p)) ∧ Hid (∀ k, u.ownBlock = some k → k ≠ g7 ∧ k ≠ g8) ∧ Hid (Blk wr g7 32 #[.bool (sg ((N / 128 : Nat) : Int)), .int .u64 (l0 ((N / 128 : Nat) : Int) : Int), .int .u64 (l1 ((N / 128 : Nat) : Int) : Int), .int .u64 (l2 ((N / 128 : Nat) : Int) : Int), .int .u64 (l3 ((N / 128 : Nat) : Int) : Int)]) ∧ Hid (Blk wr g8 32 #[.bool (sg (t : Int)), .int .u64 (l0 (t : Int) : Int), .int .u64 (l1 (t : Int) : Int), .int .u64 (l2 (t : Int) : Int), .int .u64 (l3 (t : Int) : Int)]) ∧ Hid (Ext W0 wr)) (fun u _ _ => 40 + n - lenV u)
      case atStart => exact ⟨C, [], r, hC0, rfl, hide rfl, hide (by rw [List.append_nil]; exact HO6.out), Hob, hide (by rw [Q0.out]; exact P7.out), P8, HE6⟩
      case round =>
        clear HO6 P7 P8 HE6 Hob Q0 hC0
        obtain ⟨N, p, t, hN, rfl, HPN, HO, Hob, P7, P8, HE⟩ := hrel
        have hpl : p.length ≤ 36 := by
          have h1 := congrArg List.length HPN.out
          have h2 := encB_pos N
          rw [List.length_append] at h1; omega
        obtain ⟨y, hy⟩ : ∃ y, N % 128 = y := ⟨_, rfl⟩
        have hy1 : y < 128 := by omega
        obtain ⟨u', hu'⟩ : ∃ k, N / 128 = k := ⟨_, rfl⟩
        rw [hy]
        rw [hu'] at P7
        obtain ⟨d0, d1, d2, d3, d4, _⟩ := five_cells P7.out
        obtain ⟨A1, cap1, hval, _, _, _⟩ := HO.out.at_
        have hlv : lenV u5 = n + p.length := by rw [hval]; show (l ++ p).length = _; rw [List.length_append, HC.out]
        clear hval
        by_cases hge : 128 ≤ N
        · have hu1 : 1 ≤ u' := by omega
          have hF1 : F256 (u' : Int) := by unfold F256; omega
          have KSg : Hid (∀ w, Calls Try.prog 37 #[.agg #[.bool (sg (u' : Int)), .int .u64 (l0 (u' : Int) : Int), .int .u64 (l1 (u' : Int) : Int), .int .u64 (l2 (u' : Int) : Int), .int .u64 (l3 (u' : Int) : Int)]] w (Ret (.int .i64 1) w)) := fun w => d_sign hF1 (Int.sign_eq_one_of_pos (by omega)) w
          obtain ⟨q2, hq2⟩ : ∃ k, u' / 128 = k := ⟨_, rfl⟩
          obtain ⟨r2, hr2⟩ : ∃ k, u' % 128 = k := ⟨_, rfl⟩
          have KO : Hid (∀ w, Calls Try.prog 35 #[.int .i64 128] w (Ret (.agg #[.bool (sg 128), .int .u64 (l0 128 : Int), .int .u64 (l1 128 : Int), .int .u64 (l2 128 : Int), .int .u64 (l3 128 : Int)]) w)) := fun w => d_ofi (by omega) (by omega) w
          have KD : Hid (∀ w, Calls Try.prog 34 #[.agg #[.bool (sg (u' : Int)), .int .u64 (l0 (u' : Int) : Int), .int .u64 (l1 (u' : Int) : Int), .int .u64 (l2 (u' : Int) : Int), .int .u64 (l3 (u' : Int) : Int)], .agg #[.bool (sg 128), .int .u64 (l0 128 : Int), .int .u64 (l1 128 : Int), .int .u64 (l2 128 : Int), .int .u64 (l3 128 : Int)]] w (Ret (.tuple #[.agg #[.bool (sg (q2 : Int)), .int .u64 (l0 (q2 : Int) : Int), .int .u64 (l1 (q2 : Int) : Int), .int .u64 (l2 (q2 : Int) : Int), .int .u64 (l3 (q2 : Int) : Int)], .agg #[.bool (sg (r2 : Int)), .int .u64 (l0 (r2 : Int) : Int), .int .u64 (l1 (r2 : Int) : Int), .int .u64 (l2 (r2 : Int) : Int), .int .u64 (l3 (r2 : Int) : Int)], .bool true]) w)) := fun w => d_div hF1 (by unfold F256; omega) (by omega) (by omega) (by omega) w
          have KU : Hid (∀ w, Calls Try.prog 36 #[.agg #[.bool (sg (r2 : Int)), .int .u64 (l0 (r2 : Int) : Int), .int .u64 (l1 (r2 : Int) : Int), .int .u64 (l2 (r2 : Int) : Int), .int .u64 (l3 (r2 : Int) : Int)]] w (Ret (.tuple #[.int .u64 (r2 : Int), .bool true]) w)) := fun w => d_uns (by omega) w
          have HPN2 : Hid ((p ++ [y + 128]) ++ encB u' = encB C) := by
            show _ = _
            rw [← HPN.out, encB_big hge, hy, hu']; simp
          have hr2l : r2 < 128 := by omega
          have Hu := hide hu1
          have HF1 := hide hF1
          have HN := hide hN
          have Hq2 := hide hq2
          have Hr2 := hide hr2
          have Hlv := hide hlv
          have hu'N : u' < 231584178474632390847141970017375815706539969331281128078915168015826259279872 := by omega
          have HuN := hide hu'N
          clear hge hF1 HPN hy hu' hN hq2 hr2 hlv hu1 hu'N
          go_upto_region 10 with (go_at_call 37; (with_reducible refine (KSg.out _).mono ?_); rintro e w7 ⟨rfl, hE7⟩)
          have hO1 := (HO.out.ext hE7).alloc (.cells #[Value.int .u8 ((y : Int) + 128)] 5)
          have hone := one_at w7 (y + 128) (by omega) (Value.int .u8 ((y : Int) + 128)) rfl
          have hlen1 : (l ++ p).length + [y + 128].length ≤ 140737488355328 := by rw [List.length_append]; have := HC.out; simp; omega
          have hE8 := (Ext.trans HE.out hE7).alloc (Ext.trans HE.out hE7).size (.cells #[Value.int .u8 ((y : Int) + 128)] 5)
          have P7 := hide ((Blk.ext P7.out hE7).alloc (.cells #[Value.int .u8 ((y : Int) + 128)] 5))
          have P8 := hide ((Blk.ext P8.out hE7).alloc (.cells #[Value.int .u8 ((y : Int) + 128)] 5))
          have hO1 := hide hO1
          have hone := hide hone
          have hE8 := hide hE8
          have L7 := hide P7.out.lt
          have L8 := hide P8.out.lt
          clear d0 d1 d2 d3 d4 hE7 HO HE KSg
          go_upto_region 12 with (at_builtin; refine wl_append8 rfl (.tmp 42) (.tmp 45) rfl W0.heap.size u5 (l ++ p) [y + 128] rfl hO1.out _ 1 1 rfl hone.out rfl hlen1 hE8.out.size ?_; intro v2 w9 hO2 hG2 hA2; have hE9 := hide (below_grown hE8.out (Nat.le_refl _) hO1.out hG2); have P7 := hide (Blk.grown P7.out hG2 (fun k e => (Hob.out k e).1)); have P8 := hide (Blk.grown P8.out hG2 (fun k e => (Hob.out k e).2)); have hO2 := hide hO2; have hA2 := hide hA2)
          have lb7 := P7.out.lt
          have lb8 := P8.out.lt
          have Hob2 : Hid (∀ k, v2.ownBlock = some k → k ≠ g7 ∧ k ≠ g8) := fun k e => by
            rcases hA2.out with h | h
            · exact Hob.out k (h ▸ e)
            · have hk : k = (w7.alloc (.cells #[Value.int .u8 ((y : Int) + 128)] 5)).heap.size := Option.some.inj (e.symm.trans h)
              have := L7.out
              have := L8.out
              omega
          have ltW0 : ∀ c, Tag.so c ∈ [.q, .q, .q, .q, .q, .q, .q, .so 0, .so 1] → (fun i => match i with | 0 => g7 | _ => g8) c < w9.heap.size := by intro c hc; simp at hc; rcases hc with rfl | rfl <;> (try simp only) <;> omega
          have hso : ∀ c, Tag.so c ∈ [.q, .q, .q, .q, .q, .q, .q, .so 0, .so 1] → W0.heap.size ≤ (fun i => match i with | 0 => g7 | _ => g8) c := by intro c hc; simp at hc; rcases hc with rfl | rfl <;> (try simp only) <;> omega
          clear hO1 hone hE8 hA2 hlen1 L7 L8 Hob
          refine wp_decl [.q, .q, .q, .q, .q, .q, .q, .so 0, .so 1] [.agg #[.bool (sg (u' : Int)), .int .u64 (l0 (u' : Int) : Int), .int .u64 (l1 (u' : Int) : Int), .int .u64 (l2 (u' : Int) : Int), .int .u64 (l3 (u' : Int) : Int)], .agg #[.bool (sg 128), .int .u64 (l0 128 : Int), .int .u64 (l1 128 : Int), .int .u64 (l2 128 : Int), .int .u64 (l3 128 : Int)], .tuple #[.agg #[.bool (sg (q2 : Int)), .int .u64 (l0 (q2 : Int) : Int), .int .u64 (l1 (q2 : Int) : Int), .int .u64 (l2 (q2 : Int) : Int), .int .u64 (l3 (q2 : Int) : Int)], .agg #[.bool (sg (r2 : Int)), .int .u64 (l0 (r2 : Int) : Int), .int .u64 (l1 (r2 : Int) : Int), .int .u64 (l2 (r2 : Int) : Int), .int .u64 (l3 (r2 : Int) : Int)], .bool true], .tuple #[.agg #[.bool (sg (q2 : Int)), .int .u64 (l0 (q2 : Int) : Int), .int .u64 (l1 (q2 : Int) : Int), .int .u64 (l2 (q2 : Int) : Int), .int .u64 (l3 (q2 : Int) : Int)], .agg #[.bool (sg (r2 : Int)), .int .u64 (l0 (r2 : Int) : Int), .int .u64 (l1 (r2 : Int) : Int), .int .u64 (l2 (r2 : Int) : Int), .int .u64 (l3 (r2 : Int) : Int)], .bool true], .agg #[.bool (sg (q2 : Int)), .int .u64 (l0 (q2 : Int) : Int), .int .u64 (l1 (q2 : Int) : Int), .int .u64 (l2 (q2 : Int) : Int), .int .u64 (l3 (q2 : Int) : Int)], .agg #[.bool (sg (r2 : Int)), .int .u64 (l0 (r2 : Int) : Int), .int .u64 (l1 (r2 : Int) : Int), .int .u64 (l2 (r2 : Int) : Int), .int .u64 (l3 (r2 : Int) : Int)], .bool true, undef, undef] (fun _ => (.cells #[.bool false, .int .u64 0, .int .u64 0, .int .u64 0, .int .u64 0] 32 (0, 0))) (fun i => match i with | 7 => (.cells #[.bool (sg (q2 : Int)), .int .u64 (l0 (q2 : Int) : Int), .int .u64 (l1 (q2 : Int) : Int), .int .u64 (l2 (q2 : Int) : Int), .int .u64 (l3 (q2 : Int) : Int)] 32 (0, 0)) | _ => (.cells #[.bool (sg (r2 : Int)), .int .u64 (l0 (r2 : Int) : Int), .int .u64 (l1 (r2 : Int) : Int), .int .u64 (l2 (r2 : Int) : Int), .int .u64 (l3 (r2 : Int) : Int)] 32 (0, 0))) (fun i => match i with | 0 => g7 | _ => g8) (by kernel_rfl) (by kernel_rfl) (by kernel_rfl) rfl rfl ltW0 (by intro c c' h1 h2 h3; simp at h1 h2; rcases h1 with rfl | rfl <;> rcases h2 with rfl | rfl <;> simp only at h3 <;> omega) ?_ ?_
          · refine ⟨?_, ?_, ?_, ?_, ?_, ?_, ?_, ?_, ?_, trivial⟩
            · refine op_qa ?uvm0 ?h1m0 ?h2m0 ?h3m0
              case h1m0 => exact rfl
              case uvm0 => exact (.agg #[.bool (sg (u' : Int)), .int .u64 (l0 (u' : Int) : Int), .int .u64 (l1 (u' : Int) : Int), .int .u64 (l2 (u' : Int) : Int), .int .u64 (l3 (u' : Int) : Int)])
              case h2m0 => exact rfl
              intro w' hw' hwa
              have P7 : Box w' g7 (sg (u' : Int)) (l0 (u' : Int)) (l1 (u' : Int)) (l2 (u' : Int)) (l3 (u' : Int)) := (hwa 7 0 rfl (by kernel_rfl)).trans P7.out
              have xP7 := five_cells P7
              go_simp
            · refine op_q ?uvm1 ?h1m1 ?h2m1 ?h3m1
              case h1m1 => exact rfl
              case uvm1 => exact (.agg #[.bool (sg 128), .int .u64 (l0 128 : Int), .int .u64 (l1 128 : Int), .int .u64 (l2 128 : Int), .int .u64 (l3 128 : Int)])
              case h2m1 => exact rfl
              intro w' hw'
              go_simp
              exact KO.out w'
            · refine op_q ?uvm2 ?h1m2 ?h2m2 ?h3m2
              case h1m2 => exact rfl
              case uvm2 => exact (.tuple #[.agg #[.bool (sg (q2 : Int)), .int .u64 (l0 (q2 : Int) : Int), .int .u64 (l1 (q2 : Int) : Int), .int .u64 (l2 (q2 : Int) : Int), .int .u64 (l3 (q2 : Int) : Int)], .agg #[.bool (sg (r2 : Int)), .int .u64 (l0 (r2 : Int) : Int), .int .u64 (l1 (r2 : Int) : Int), .int .u64 (l2 (r2 : Int) : Int), .int .u64 (l3 (r2 : Int) : Int)], .bool true])
              case h2m2 => exact rfl
              intro w' hw'
              go_simp
              exact KD.out w'
            · refine op_q ?uvm3 ?h1m3 ?h2m3 ?h3m3
              case h1m3 => exact rfl
              case uvm3 => exact (.tuple #[.agg #[.bool (sg (q2 : Int)), .int .u64 (l0 (q2 : Int) : Int), .int .u64 (l1 (q2 : Int) : Int), .int .u64 (l2 (q2 : Int) : Int), .int .u64 (l3 (q2 : Int) : Int)], .agg #[.bool (sg (r2 : Int)), .int .u64 (l0 (r2 : Int) : Int), .int .u64 (l1 (r2 : Int) : Int), .int .u64 (l2 (r2 : Int) : Int), .int .u64 (l3 (r2 : Int) : Int)], .bool true])
              case h2m3 => exact rfl
              intro w' hw'
              go_simp
            · refine op_q ?uvm4 ?h1m4 ?h2m4 ?h3m4
              case h1m4 => exact rfl
              case uvm4 => exact (.agg #[.bool (sg (q2 : Int)), .int .u64 (l0 (q2 : Int) : Int), .int .u64 (l1 (q2 : Int) : Int), .int .u64 (l2 (q2 : Int) : Int), .int .u64 (l3 (q2 : Int) : Int)])
              case h2m4 => exact rfl
              intro w' hw'
              go_simp
            · refine op_q ?uvm5 ?h1m5 ?h2m5 ?h3m5
              case h1m5 => exact rfl
              case uvm5 => exact (.agg #[.bool (sg (r2 : Int)), .int .u64 (l0 (r2 : Int) : Int), .int .u64 (l1 (r2 : Int) : Int), .int .u64 (l2 (r2 : Int) : Int), .int .u64 (l3 (r2 : Int) : Int)])
              case h2m5 => exact rfl
              intro w' hw'
              go_simp
            · refine op_q ?uvm6 ?h1m6 ?h2m6 ?h3m6
              case h1m6 => exact rfl
              case uvm6 => exact (.bool true)
              case h2m6 => exact rfl
              intro w' hw'
              go_simp
            · refine op_so (c := 0) (T := ?uTm7) (p := ?upm7) (x := ?uxm7) ?ugm7 ?ufm7 ?uvm7 ?h1m7 ?h2m7 ?h3m7 ?h4m7 ?h5m7 ?h6m7 ?h7m7
              case h1m7 => exact rfl
              case h2m7 => exact rfl
              case ufm7 => exact (.cells #[.bool (sg (q2 : Int)), .int .u64 (l0 (q2 : Int) : Int), .int .u64 (l1 (q2 : Int) : Int), .int .u64 (l2 (q2 : Int) : Int), .int .u64 (l3 (q2 : Int) : Int)] 32 (0, 0))
              case ugm7 => exact g7
              case uvm7 => exact (.agg #[.bool (sg (q2 : Int)), .int .u64 (l0 (q2 : Int) : Int), .int .u64 (l1 (q2 : Int) : Int), .int .u64 (l2 (q2 : Int) : Int), .int .u64 (l3 (q2 : Int) : Int)])
              case h3m7 => exact rfl
              case h4m7 => exact rfl
              case h5m7 => go_simp; rfl
              case h6m7 => go_simp
              intro ρ w' hp hx hz
              exact store_wide rfl hp hx (hz.trans P7.out)
            · refine op_so (c := 1) (T := ?uTm8) (p := ?upm8) (x := ?uxm8) ?ugm8 ?ufm8 ?uvm8 ?h1m8 ?h2m8 ?h3m8 ?h4m8 ?h5m8 ?h6m8 ?h7m8
              case h1m8 => exact rfl
              case h2m8 => exact rfl
              case ufm8 => exact (.cells #[.bool (sg (r2 : Int)), .int .u64 (l0 (r2 : Int) : Int), .int .u64 (l1 (r2 : Int) : Int), .int .u64 (l2 (r2 : Int) : Int), .int .u64 (l3 (r2 : Int) : Int)] 32 (0, 0))
              case ugm8 => exact g8
              case uvm8 => exact (.agg #[.bool (sg (r2 : Int)), .int .u64 (l0 (r2 : Int) : Int), .int .u64 (l1 (r2 : Int) : Int), .int .u64 (l2 (r2 : Int) : Int), .int .u64 (l3 (r2 : Int) : Int)])
              case h3m8 => exact rfl
              case h4m8 => exact rfl
              case h5m8 => go_simp; rfl
              case h6m8 => go_simp
              intro ρ w' hp hx hz
              exact store_wide rfl hp hx (hz.trans P8.out)
          · intro G w10 hI
            have hS := hI.same
            have HO := hide (OwnB.keep hO2.out hS.2.2.2.1 (fun k e => hS.2.2.2.2 k (hO2.out.1.lt k e).2 (by have := Hob2.out k e; intro c hc; simp at hc; rcases hc with rfl | rfl <;> (try simp only) <;> omega)))
            have HE := hide (hS.ext' hE9.out hso)
            have P7 : Hid (Blk w10 g7 32 #[.bool (sg (q2 : Int)), .int .u64 (l0 (q2 : Int) : Int), .int .u64 (l1 (q2 : Int) : Int), .int .u64 (l2 (q2 : Int) : Int), .int .u64 (l3 (q2 : Int) : Int)]) := hI.olds' 7 (List.mem_range.2 (show 7 < 9 by decide)) 0 rfl
            have P8 : Hid (Blk w10 g8 32 #[.bool (sg (r2 : Int)), .int .u64 (l0 (r2 : Int) : Int), .int .u64 (l1 (r2 : Int) : Int), .int .u64 (l2 (r2 : Int) : Int), .int .u64 (l3 (r2 : Int) : Int)]) := hI.olds' 8 (List.mem_range.2 (show 8 < 9 by decide)) 1 rfl
            clear hI hS hO2 hE9 ltW0 hso KO KD
            simp only [putAll, slotV, ptrTo, Nat.zero_add, Nat.reduceAdd]
            obtain ⟨d0, d1, d2, d3, d4, _⟩ := five_cells P8.out
            go_wp2_with (go_at_call 36; (with_reducible refine (KU.out _).mono ?_); rintro e w11 ⟨rfl, hE11⟩)
            refine ⟨⟨_, _, _, _, _, _, _, _, _, _, _, _, _, _, _, _, _, _, _, _, _, _, _, _, _, ?rel, rfl⟩, ?measure⟩
            case rel => exact ⟨u', p ++ [y + 128], r2, HuN.out, by rw [Hr2.out], HPN2, hide (by rw [← List.append_assoc]; exact HO.out.ext hE11), Hob2, hide (by rw [Hq2.out]; exact Blk.ext P7.out hE11), hide (Blk.ext P8.out hE11), hide (Ext.trans HE.out hE11)⟩
            case measure =>
              have h1 := Hlv.out
              obtain ⟨A2, cap2, hv2, _, _, _⟩ := HO.out.at_
              have h2 : lenV v2 = n + p.length + 1 := by rw [hv2]; show (l ++ p ++ [y + 128]).length = _; simp [HC.out]; omega
              show 40 + n - lenV v2 < 40 + n - lenV u5
              rw [h1, h2]; omega
        · have hN1 : N = y := by omega
          have hu0 : u' = 0 := by omega
          have KSg : Hid (∀ w, Calls Try.prog 37 #[.agg #[.bool (sg (u' : Int)), .int .u64 (l0 (u' : Int) : Int), .int .u64 (l1 (u' : Int) : Int), .int .u64 (l2 (u' : Int) : Int), .int .u64 (l3 (u' : Int) : Int)]] w (Ret (.int .i64 0) w)) := fun w => d_sign (by unfold F256; omega) (by rw [hu0]; rfl) w
          have HPN2 : Hid (p ++ [y] = encB C) := by
            show _ = _
            rw [← HPN.out, hN1, encB_small (by omega)]
          clear hge HPN hy hu' hN hlv hN1 hu0
          go_upto_region 15 with (go_at_call 37; (with_reducible refine (KSg.out _).mono ?_); rintro e w7 ⟨rfl, hE7⟩)
          have hO1 := hide ((HO.out.ext hE7).alloc (.cells #[Value.int .u8 (y : Int)] 5))
          have hone := hide (one_at w7 y (by omega) (Value.int .u8 (y : Int)) rfl)
          have hlen1 : (l ++ p).length + [y].length ≤ 140737488355328 := by rw [List.length_append]; have := HC.out; simp; omega
          have hE8 := hide ((Ext.trans HE.out hE7).alloc (Ext.trans HE.out hE7).size (.cells #[Value.int .u8 (y : Int)] 5))
          clear d0 d1 d2 d3 d4 hE7 HO HE KSg
          go_wp2_with (at_builtin; refine wl_append8 rfl (.tmp 61) (.tmp 63) rfl W0.heap.size u5 (l ++ p) [y] rfl hO1.out _ 1 1 rfl hone.out rfl hlen1 hE8.out.size ?_; intro v2 w9 hO2 hG2 hA2; have hE9 := hide (below_grown hE8.out (Nat.le_refl _) hO1.out hG2); have hO2 := hide hO2; clear hG2 hA2)
          go_ret
          refine ⟨_, rfl, ?_, Ext.trans HE0.out hE9.out⟩
          rw [HCC.out, ← HPN2.out, ← List.append_assoc]
          exact hO2.out.less HE0.out.size
    · have q1 : ¬ z.sign < 0 := by
        rcases Int.lt_trichotomy z 0 with h | h | h
        · omega
        · subst h; decide
        · rw [Int.sign_eq_one_of_pos h]; omega
      rw [if_neg hneg] at hM0
      have hx0 : C % 128 = 2 * r := by omega
      have hq0 : C / 128 = q := by omega
      have X0 := hide hx0
      have Q0 := hide hq0
      clear hx0 hq0 hM0 hqr hneg
      obtain ⟨zs, hzs⟩ : ∃ t, z.sign = t := ⟨_, rfl⟩
      rw [hzs] at q1 KS
      clear hzs
      obtain ⟨d0, d1, d2, d3, d4, _⟩ := five_cells P8.out
      go_upto_region 6 with (go_at_call 36; (with_reducible refine (KU.out _).mono ?_); rintro e w5 ⟨rfl, hE5⟩)
      obtain ⟨p0, p1, p2, p3, p4, _⟩ := five_cells (show Box w5 W.heap.size s (l0 (M : Int)) (l1 (M : Int)) (l2 (M : Int)) (l3 (M : Int)) from HP4.out.ext hE5)
      go_upto_region 9 with (go_at_call 37; (with_reducible refine (KS.out _).mono ?_); rintro e w6 ⟨rfl, hE6⟩)
      have E6 := Ext.trans hE5 hE6
      have P7 := hide (Blk.ext (cs := #[.bool (sg (q : Int)), .int .u64 (l0 (q : Int) : Int), .int .u64 (l1 (q : Int) : Int), .int .u64 (l2 (q : Int) : Int), .int .u64 (l3 (q : Int) : Int)]) P7.out E6)
      have P8 := hide (Blk.ext (cs := #[.bool (sg (r : Int)), .int .u64 (l0 (r : Int) : Int), .int .u64 (l1 (r : Int) : Int), .int .u64 (l2 (r : Int) : Int), .int .u64 (l3 (r : Int) : Int)]) P8.out E6)
      have HO6 := hide (HO4.out.ext E6)
      have HE6 := hide (Ext.trans HE4.out E6)
      clear hE5 hE6 E6 p0 p1 p2 p3 p4 d0 d1 d2 d3 d4 HO4 HE4 HP4 KU KS q1
      have hx1 : Value.int .u8 (2 * (r : Int)) = Value.int .u8 ((C % 128 : Nat) : Int) := congrArg (Value.int .u8) (by rw [X0.out]; omega)
      have hC0 : C < 231584178474632390847141970017375815706539969331281128078915168015826259279872 := by rw [← HCC.out]; exact Nat.lt_of_lt_of_eq hC257 (by decide +kernel)
      rw [hx1]
      clear hx1 X0 hC257
      go_loopw [5, 12] (fun u x wr => ∃ (N : Nat) (p : List Nat) (t : Nat), N < 231584178474632390847141970017375815706539969331281128078915168015826259279872 ∧ x = .int .u8 ((N % 128 : Nat) : Int) ∧ Hid (p ++ encB N = encB C) ∧ Hid (OwnB W0.heap.size wr u (l ++ p)) ∧ Hid (∀ k, u.ownBlock = some k → k ≠ g7 ∧ k ≠ g8) ∧ Hid (Blk wr g7 32 #[.bool (sg ((N / 128 : Nat) : Int)), .int .u64 (l0 ((N / 128 : Nat) : Int) : Int), .int .u64 (l1 ((N / 128 : Nat) : Int) : Int), .int .u64 (l2 ((N / 128 : Nat) : Int) : Int), .int .u64 (l3 ((N / 128 : Nat) : Int) : Int)]) ∧ Hid (Blk wr g8 32 #[.bool (sg (t : Int)), .int .u64 (l0 (t : Int) : Int), .int .u64 (l1 (t : Int) : Int), .int .u64 (l2 (t : Int) : Int), .int .u64 (l3 (t : Int) : Int)]) ∧ Hid (Ext W0 wr)) (fun u _ _ => 40 + n - lenV u)
      case atStart => exact ⟨C, [], r, hC0, rfl, hide rfl, hide (by rw [List.append_nil]; exact HO6.out), Hob, hide (by rw [Q0.out]; exact P7.out), P8, HE6⟩
      case round =>
        clear HO6 P7 P8 HE6 Hob Q0 hC0
        obtain ⟨N, p, t, hN, rfl, HPN, HO, Hob, P7, P8, HE⟩ := hrel
        have hpl : p.length ≤ 36 := by
          have h1 := congrArg List.length HPN.out
          have h2 := encB_pos N
          rw [List.length_append] at h1; omega
        obtain ⟨y, hy⟩ : ∃ y, N % 128 = y := ⟨_, rfl⟩
        have hy1 : y < 128 := by omega
        obtain ⟨u', hu'⟩ : ∃ k, N / 128 = k := ⟨_, rfl⟩
        rw [hy]
        rw [hu'] at P7
        obtain ⟨d0, d1, d2, d3, d4, _⟩ := five_cells P7.out
        obtain ⟨A1, cap1, hval, _, _, _⟩ := HO.out.at_
        have hlv : lenV u5 = n + p.length := by rw [hval]; show (l ++ p).length = _; rw [List.length_append, HC.out]
        clear hval
        by_cases hge : 128 ≤ N
        · have hu1 : 1 ≤ u' := by omega
          have hF1 : F256 (u' : Int) := by unfold F256; omega
          have KSg : Hid (∀ w, Calls Try.prog 37 #[.agg #[.bool (sg (u' : Int)), .int .u64 (l0 (u' : Int) : Int), .int .u64 (l1 (u' : Int) : Int), .int .u64 (l2 (u' : Int) : Int), .int .u64 (l3 (u' : Int) : Int)]] w (Ret (.int .i64 1) w)) := fun w => d_sign hF1 (Int.sign_eq_one_of_pos (by omega)) w
          obtain ⟨q2, hq2⟩ : ∃ k, u' / 128 = k := ⟨_, rfl⟩
          obtain ⟨r2, hr2⟩ : ∃ k, u' % 128 = k := ⟨_, rfl⟩
          have KO : Hid (∀ w, Calls Try.prog 35 #[.int .i64 128] w (Ret (.agg #[.bool (sg 128), .int .u64 (l0 128 : Int), .int .u64 (l1 128 : Int), .int .u64 (l2 128 : Int), .int .u64 (l3 128 : Int)]) w)) := fun w => d_ofi (by omega) (by omega) w
          have KD : Hid (∀ w, Calls Try.prog 34 #[.agg #[.bool (sg (u' : Int)), .int .u64 (l0 (u' : Int) : Int), .int .u64 (l1 (u' : Int) : Int), .int .u64 (l2 (u' : Int) : Int), .int .u64 (l3 (u' : Int) : Int)], .agg #[.bool (sg 128), .int .u64 (l0 128 : Int), .int .u64 (l1 128 : Int), .int .u64 (l2 128 : Int), .int .u64 (l3 128 : Int)]] w (Ret (.tuple #[.agg #[.bool (sg (q2 : Int)), .int .u64 (l0 (q2 : Int) : Int), .int .u64 (l1 (q2 : Int) : Int), .int .u64 (l2 (q2 : Int) : Int), .int .u64 (l3 (q2 : Int) : Int)], .agg #[.bool (sg (r2 : Int)), .int .u64 (l0 (r2 : Int) : Int), .int .u64 (l1 (r2 : Int) : Int), .int .u64 (l2 (r2 : Int) : Int), .int .u64 (l3 (r2 : Int) : Int)], .bool true]) w)) := fun w => d_div hF1 (by unfold F256; omega) (by omega) (by omega) (by omega) w
          have KU : Hid (∀ w, Calls Try.prog 36 #[.agg #[.bool (sg (r2 : Int)), .int .u64 (l0 (r2 : Int) : Int), .int .u64 (l1 (r2 : Int) : Int), .int .u64 (l2 (r2 : Int) : Int), .int .u64 (l3 (r2 : Int) : Int)]] w (Ret (.tuple #[.int .u64 (r2 : Int), .bool true]) w)) := fun w => d_uns (by omega) w
          have HPN2 : Hid ((p ++ [y + 128]) ++ encB u' = encB C) := by
            show _ = _
            rw [← HPN.out, encB_big hge, hy, hu']; simp
          have hr2l : r2 < 128 := by omega
          have Hu := hide hu1
          have HF1 := hide hF1
          have HN := hide hN
          have Hq2 := hide hq2
          have Hr2 := hide hr2
          have Hlv := hide hlv
          have hu'N : u' < 231584178474632390847141970017375815706539969331281128078915168015826259279872 := by omega
          have HuN := hide hu'N
          clear hge hF1 HPN hy hu' hN hq2 hr2 hlv hu1 hu'N
          go_upto_region 10 with (go_at_call 37; (with_reducible refine (KSg.out _).mono ?_); rintro e w7 ⟨rfl, hE7⟩)
          have hO1 := (HO.out.ext hE7).alloc (.cells #[Value.int .u8 ((y : Int) + 128)] 5)
          have hone := one_at w7 (y + 128) (by omega) (Value.int .u8 ((y : Int) + 128)) rfl
          have hlen1 : (l ++ p).length + [y + 128].length ≤ 140737488355328 := by rw [List.length_append]; have := HC.out; simp; omega
          have hE8 := (Ext.trans HE.out hE7).alloc (Ext.trans HE.out hE7).size (.cells #[Value.int .u8 ((y : Int) + 128)] 5)
          have P7 := hide ((Blk.ext P7.out hE7).alloc (.cells #[Value.int .u8 ((y : Int) + 128)] 5))
          have P8 := hide ((Blk.ext P8.out hE7).alloc (.cells #[Value.int .u8 ((y : Int) + 128)] 5))
          have hO1 := hide hO1
          have hone := hide hone
          have hE8 := hide hE8
          have L7 := hide P7.out.lt
          have L8 := hide P8.out.lt
          clear d0 d1 d2 d3 d4 hE7 HO HE KSg
          go_upto_region 12 with (at_builtin; refine wl_append8 rfl (.tmp 42) (.tmp 45) rfl W0.heap.size u5 (l ++ p) [y + 128] rfl hO1.out _ 1 1 rfl hone.out rfl hlen1 hE8.out.size ?_; intro v2 w9 hO2 hG2 hA2; have hE9 := hide (below_grown hE8.out (Nat.le_refl _) hO1.out hG2); have P7 := hide (Blk.grown P7.out hG2 (fun k e => (Hob.out k e).1)); have P8 := hide (Blk.grown P8.out hG2 (fun k e => (Hob.out k e).2)); have hO2 := hide hO2; have hA2 := hide hA2)
          have lb7 := P7.out.lt
          have lb8 := P8.out.lt
          have Hob2 : Hid (∀ k, v2.ownBlock = some k → k ≠ g7 ∧ k ≠ g8) := fun k e => by
            rcases hA2.out with h | h
            · exact Hob.out k (h ▸ e)
            · have hk : k = (w7.alloc (.cells #[Value.int .u8 ((y : Int) + 128)] 5)).heap.size := Option.some.inj (e.symm.trans h)
              have := L7.out
              have := L8.out
              omega
          have ltW0 : ∀ c, Tag.so c ∈ [.q, .q, .q, .q, .q, .q, .q, .so 0, .so 1] → (fun i => match i with | 0 => g7 | _ => g8) c < w9.heap.size := by intro c hc; simp at hc; rcases hc with rfl | rfl <;> (try simp only) <;> omega
          have hso : ∀ c, Tag.so c ∈ [.q, .q, .q, .q, .q, .q, .q, .so 0, .so 1] → W0.heap.size ≤ (fun i => match i with | 0 => g7 | _ => g8) c := by intro c hc; simp at hc; rcases hc with rfl | rfl <;> (try simp only) <;> omega
          clear hO1 hone hE8 hA2 hlen1 L7 L8 Hob
          refine wp_decl [.q, .q, .q, .q, .q, .q, .q, .so 0, .so 1] [.agg #[.bool (sg (u' : Int)), .int .u64 (l0 (u' : Int) : Int), .int .u64 (l1 (u' : Int) : Int), .int .u64 (l2 (u' : Int) : Int), .int .u64 (l3 (u' : Int) : Int)], .agg #[.bool (sg 128), .int .u64 (l0 128 : Int), .int .u64 (l1 128 : Int), .int .u64 (l2 128 : Int), .int .u64 (l3 128 : Int)], .tuple #[.agg #[.bool (sg (q2 : Int)), .int .u64 (l0 (q2 : Int) : Int), .int .u64 (l1 (q2 : Int) : Int), .int .u64 (l2 (q2 : Int) : Int), .int .u64 (l3 (q2 : Int) : Int)], .agg #[.bool (sg (r2 : Int)), .int .u64 (l0 (r2 : Int) : Int), .int .u64 (l1 (r2 : Int) : Int), .int .u64 (l2 (r2 : Int) : Int), .int .u64 (l3 (r2 : Int) : Int)], .bool true], .tuple #[.agg #[.bool (sg (q2 : Int)), .int .u64 (l0 (q2 : Int) : Int), .int .u64 (l1 (q2 : Int) : Int), .int .u64 (l2 (q2 : Int) : Int), .int .u64 (l3 (q2 : Int) : Int)], .agg #[.bool (sg (r2 : Int)), .int .u64 (l0 (r2 : Int) : Int), .int .u64 (l1 (r2 : Int) : Int), .int .u64 (l2 (r2 : Int) : Int), .int .u64 (l3 (r2 : Int) : Int)], .bool true], .agg #[.bool (sg (q2 : Int)), .int .u64 (l0 (q2 : Int) : Int), .int .u64 (l1 (q2 : Int) : Int), .int .u64 (l2 (q2 : Int) : Int), .int .u64 (l3 (q2 : Int) : Int)], .agg #[.bool (sg (r2 : Int)), .int .u64 (l0 (r2 : Int) : Int), .int .u64 (l1 (r2 : Int) : Int), .int .u64 (l2 (r2 : Int) : Int), .int .u64 (l3 (r2 : Int) : Int)], .bool true, undef, undef] (fun _ => (.cells #[.bool false, .int .u64 0, .int .u64 0, .int .u64 0, .int .u64 0] 32 (0, 0))) (fun i => match i with | 7 => (.cells #[.bool (sg (q2 : Int)), .int .u64 (l0 (q2 : Int) : Int), .int .u64 (l1 (q2 : Int) : Int), .int .u64 (l2 (q2 : Int) : Int), .int .u64 (l3 (q2 : Int) : Int)] 32 (0, 0)) | _ => (.cells #[.bool (sg (r2 : Int)), .int .u64 (l0 (r2 : Int) : Int), .int .u64 (l1 (r2 : Int) : Int), .int .u64 (l2 (r2 : Int) : Int), .int .u64 (l3 (r2 : Int) : Int)] 32 (0, 0))) (fun i => match i with | 0 => g7 | _ => g8) (by kernel_rfl) (by kernel_rfl) (by kernel_rfl) rfl rfl ltW0 (by intro c c' h1 h2 h3; simp at h1 h2; rcases h1 with rfl | rfl <;> rcases h2 with rfl | rfl <;> simp only at h3 <;> omega) ?_ ?_
          · refine ⟨?_, ?_, ?_, ?_, ?_, ?_, ?_, ?_, ?_, trivial⟩
            · refine op_qa ?uvk0 ?h1k0 ?h2k0 ?h3k0
              case h1k0 => exact rfl
              case uvk0 => exact (.agg #[.bool (sg (u' : Int)), .int .u64 (l0 (u' : Int) : Int), .int .u64 (l1 (u' : Int) : Int), .int .u64 (l2 (u' : Int) : Int), .int .u64 (l3 (u' : Int) : Int)])
              case h2k0 => exact rfl
              intro w' hw' hwa
              have P7 : Box w' g7 (sg (u' : Int)) (l0 (u' : Int)) (l1 (u' : Int)) (l2 (u' : Int)) (l3 (u' : Int)) := (hwa 7 0 rfl (by kernel_rfl)).trans P7.out
              have xP7 := five_cells P7
              go_simp
            · refine op_q ?uvk1 ?h1k1 ?h2k1 ?h3k1
              case h1k1 => exact rfl
              case uvk1 => exact (.agg #[.bool (sg 128), .int .u64 (l0 128 : Int), .int .u64 (l1 128 : Int), .int .u64 (l2 128 : Int), .int .u64 (l3 128 : Int)])
              case h2k1 => exact rfl
              intro w' hw'
              go_simp
              exact KO.out w'
            · refine op_q ?uvk2 ?h1k2 ?h2k2 ?h3k2
              case h1k2 => exact rfl
              case uvk2 => exact (.tuple #[.agg #[.bool (sg (q2 : Int)), .int .u64 (l0 (q2 : Int) : Int), .int .u64 (l1 (q2 : Int) : Int), .int .u64 (l2 (q2 : Int) : Int), .int .u64 (l3 (q2 : Int) : Int)], .agg #[.bool (sg (r2 : Int)), .int .u64 (l0 (r2 : Int) : Int), .int .u64 (l1 (r2 : Int) : Int), .int .u64 (l2 (r2 : Int) : Int), .int .u64 (l3 (r2 : Int) : Int)], .bool true])
              case h2k2 => exact rfl
              intro w' hw'
              go_simp
              exact KD.out w'
            · refine op_q ?uvk3 ?h1k3 ?h2k3 ?h3k3
              case h1k3 => exact rfl
              case uvk3 => exact (.tuple #[.agg #[.bool (sg (q2 : Int)), .int .u64 (l0 (q2 : Int) : Int), .int .u64 (l1 (q2 : Int) : Int), .int .u64 (l2 (q2 : Int) : Int), .int .u64 (l3 (q2 : Int) : Int)], .agg #[.bool (sg (r2 : Int)), .int .u64 (l0 (r2 : Int) : Int), .int .u64 (l1 (r2 : Int) : Int), .int .u64 (l2 (r2 : Int) : Int), .int .u64 (l3 (r2 : Int) : Int)], .bool true])
              case h2k3 => exact rfl
              intro w' hw'
              go_simp
            · refine op_q ?uvk4 ?h1k4 ?h2k4 ?h3k4
              case h1k4 => exact rfl
              case uvk4 => exact (.agg #[.bool (sg (q2 : Int)), .int .u64 (l0 (q2 : Int) : Int), .int .u64 (l1 (q2 : Int) : Int), .int .u64 (l2 (q2 : Int) : Int), .int .u64 (l3 (q2 : Int) : Int)])
              case h2k4 => exact rfl
              intro w' hw'
              go_simp
            · refine op_q ?uvk5 ?h1k5 ?h2k5 ?h3k5
              case h1k5 => exact rfl
              case uvk5 => exact (.agg #[.bool (sg (r2 : Int)), .int .u64 (l0 (r2 : Int) : Int), .int .u64 (l1 (r2 : Int) : Int), .int .u64 (l2 (r2 : Int) : Int), .int .u64 (l3 (r2 : Int) : Int)])
              case h2k5 => exact rfl
              intro w' hw'
              go_simp
            · refine op_q ?uvk6 ?h1k6 ?h2k6 ?h3k6
              case h1k6 => exact rfl
              case uvk6 => exact (.bool true)
              case h2k6 => exact rfl
              intro w' hw'
              go_simp
            · refine op_so (c := 0) (T := ?uTk7) (p := ?upk7) (x := ?uxk7) ?ugk7 ?ufk7 ?uvk7 ?h1k7 ?h2k7 ?h3k7 ?h4k7 ?h5k7 ?h6k7 ?h7k7
              case h1k7 => exact rfl
              case h2k7 => exact rfl
              case ufk7 => exact (.cells #[.bool (sg (q2 : Int)), .int .u64 (l0 (q2 : Int) : Int), .int .u64 (l1 (q2 : Int) : Int), .int .u64 (l2 (q2 : Int) : Int), .int .u64 (l3 (q2 : Int) : Int)] 32 (0, 0))
              case ugk7 => exact g7
              case uvk7 => exact (.agg #[.bool (sg (q2 : Int)), .int .u64 (l0 (q2 : Int) : Int), .int .u64 (l1 (q2 : Int) : Int), .int .u64 (l2 (q2 : Int) : Int), .int .u64 (l3 (q2 : Int) : Int)])
              case h3k7 => exact rfl
              case h4k7 => exact rfl
              case h5k7 => go_simp; rfl
              case h6k7 => go_simp
              intro ρ w' hp hx hz
              exact store_wide rfl hp hx (hz.trans P7.out)
            · refine op_so (c := 1) (T := ?uTk8) (p := ?upk8) (x := ?uxk8) ?ugk8 ?ufk8 ?uvk8 ?h1k8 ?h2k8 ?h3k8 ?h4k8 ?h5k8 ?h6k8 ?h7k8
              case h1k8 => exact rfl
              case h2k8 => exact rfl
              case ufk8 => exact (.cells #[.bool (sg (r2 : Int)), .int .u64 (l0 (r2 : Int) : Int), .int .u64 (l1 (r2 : Int) : Int), .int .u64 (l2 (r2 : Int) : Int), .int .u64 (l3 (r2 : Int) : Int)] 32 (0, 0))
              case ugk8 => exact g8
              case uvk8 => exact (.agg #[.bool (sg (r2 : Int)), .int .u64 (l0 (r2 : Int) : Int), .int .u64 (l1 (r2 : Int) : Int), .int .u64 (l2 (r2 : Int) : Int), .int .u64 (l3 (r2 : Int) : Int)])
              case h3k8 => exact rfl
              case h4k8 => exact rfl
              case h5k8 => go_simp; rfl
              case h6k8 => go_simp
              intro ρ w' hp hx hz
              exact store_wide rfl hp hx (hz.trans P8.out)
          · intro G w10 hI
            have hS := hI.same
            have HO := hide (OwnB.keep hO2.out hS.2.2.2.1 (fun k e => hS.2.2.2.2 k (hO2.out.1.lt k e).2 (by have := Hob2.out k e; intro c hc; simp at hc; rcases hc with rfl | rfl <;> (try simp only) <;> omega)))
            have HE := hide (hS.ext' hE9.out hso)
            have P7 : Hid (Blk w10 g7 32 #[.bool (sg (q2 : Int)), .int .u64 (l0 (q2 : Int) : Int), .int .u64 (l1 (q2 : Int) : Int), .int .u64 (l2 (q2 : Int) : Int), .int .u64 (l3 (q2 : Int) : Int)]) := hI.olds' 7 (List.mem_range.2 (show 7 < 9 by decide)) 0 rfl
            have P8 : Hid (Blk w10 g8 32 #[.bool (sg (r2 : Int)), .int .u64 (l0 (r2 : Int) : Int), .int .u64 (l1 (r2 : Int) : Int), .int .u64 (l2 (r2 : Int) : Int), .int .u64 (l3 (r2 : Int) : Int)]) := hI.olds' 8 (List.mem_range.2 (show 8 < 9 by decide)) 1 rfl
            clear hI hS hO2 hE9 ltW0 hso KO KD
            simp only [putAll, slotV, ptrTo, Nat.zero_add, Nat.reduceAdd]
            obtain ⟨d0, d1, d2, d3, d4, _⟩ := five_cells P8.out
            go_wp2_with (go_at_call 36; (with_reducible refine (KU.out _).mono ?_); rintro e w11 ⟨rfl, hE11⟩)
            refine ⟨⟨_, _, _, _, _, _, _, _, _, _, _, _, _, _, _, _, _, _, _, _, _, _, _, _, _, ?rel, rfl⟩, ?measure⟩
            case rel => exact ⟨u', p ++ [y + 128], r2, HuN.out, by rw [Hr2.out], HPN2, hide (by rw [← List.append_assoc]; exact HO.out.ext hE11), Hob2, hide (by rw [Hq2.out]; exact Blk.ext P7.out hE11), hide (Blk.ext P8.out hE11), hide (Ext.trans HE.out hE11)⟩
            case measure =>
              have h1 := Hlv.out
              obtain ⟨A2, cap2, hv2, _, _, _⟩ := HO.out.at_
              have h2 : lenV v2 = n + p.length + 1 := by rw [hv2]; show (l ++ p ++ [y + 128]).length = _; simp [HC.out]; omega
              show 40 + n - lenV v2 < 40 + n - lenV u5
              rw [h1, h2]; omega
        · have hN1 : N = y := by omega
          have hu0 : u' = 0 := by omega
          have KSg : Hid (∀ w, Calls Try.prog 37 #[.agg #[.bool (sg (u' : Int)), .int .u64 (l0 (u' : Int) : Int), .int .u64 (l1 (u' : Int) : Int), .int .u64 (l2 (u' : Int) : Int), .int .u64 (l3 (u' : Int) : Int)]] w (Ret (.int .i64 0) w)) := fun w => d_sign (by unfold F256; omega) (by rw [hu0]; rfl) w
          have HPN2 : Hid (p ++ [y] = encB C) := by
            show _ = _
            rw [← HPN.out, hN1, encB_small (by omega)]
          clear hge HPN hy hu' hN hlv hN1 hu0
          go_upto_region 15 with (go_at_call 37; (with_reducible refine (KSg.out _).mono ?_); rintro e w7 ⟨rfl, hE7⟩)
          have hO1 := hide ((HO.out.ext hE7).alloc (.cells #[Value.int .u8 (y : Int)] 5))
          have hone := hide (one_at w7 y (by omega) (Value.int .u8 (y : Int)) rfl)
          have hlen1 : (l ++ p).length + [y].length ≤ 140737488355328 := by rw [List.length_append]; have := HC.out; simp; omega
          have hE8 := hide ((Ext.trans HE.out hE7).alloc (Ext.trans HE.out hE7).size (.cells #[Value.int .u8 (y : Int)] 5))
          clear d0 d1 d2 d3 d4 hE7 HO HE KSg
          go_wp2_with (at_builtin; refine wl_append8 rfl (.tmp 61) (.tmp 63) rfl W0.heap.size u5 (l ++ p) [y] rfl hO1.out _ 1 1 rfl hone.out rfl hlen1 hE8.out.size ?_; intro v2 w9 hO2 hG2 hA2; have hE9 := hide (below_grown hE8.out (Nat.le_refl _) hO1.out hG2); have hO2 := hide hO2; clear hG2 hA2)
          go_ret
          refine ⟨_, rfl, ?_, Ext.trans HE0.out hE9.out⟩
          rw [HCC.out, ← HPN2.out, ← List.append_assoc]
          exact hO2.out.less HE0.out.size
end Go.Proofs.Ytdboaogdanahkaa
