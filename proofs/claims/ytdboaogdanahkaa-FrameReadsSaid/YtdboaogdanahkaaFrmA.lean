/- The program's Size and head of layer 7. No condition. -/
import Derived.Test.YtdboaogdanahkaaCrcG
import Derived.Test.YtdboaogdanahkaaCrcH
import Derived.Test.YtdboaogdanahkaaTapeB
namespace Go.Proofs.Ytdboaogdanahkaa
set_option linter.unusedVariables false
set_option linter.unusedSimpArgs false
open Go Go.RowKit
def fsz (n : Int) : Int := if n < 0 then 0 else if 4194304 < n then 0 else n + 13
theorem p_fsize (n : Int) (w : World) (h : I64 n) : Calls Try.prog 28 #[.int .i64 n] w (RetSame (.int .i64 (fsz n)) w) := by
  obtain ⟨v, hv⟩ : ∃ v, fsz n = v := ⟨_, rfl⟩
  have HV := hide hv
  have hi := h.1
  have hj := h.2
  rw [hv]
  clear hv
  by_cases h1 : n < 0
  · have e : v = 0 := by rw [← HV.out]; unfold fsz; rw [if_pos h1]
    subst e
    have d1 : decide (n < 0) = true := decide_eq_true h1
    go_enter Try.func28, Try.ntmps28
    go_wp2_with fail
    go_ret
    exact ⟨rfl, rfl⟩
  · have d1 : decide (n < 0) = false := decide_eq_false h1
    by_cases h2 : 4194304 < n
    · have e : v = 0 := by rw [← HV.out]; unfold fsz; rw [if_neg h1, if_pos h2]
      subst e
      have d2 : decide (4194304 < n) = true := decide_eq_true h2
      go_enter Try.func28, Try.ntmps28
      go_wp2_with fail
      go_ret
      exact ⟨rfl, rfl⟩
    · have e : v = n + 13 := by rw [← HV.out]; unfold fsz; rw [if_neg h1, if_neg h2]
      have d2 : decide (4194304 < n) = false := decide_eq_false h2
      go_enter Try.func28, Try.ntmps28
      go_wp2_with fail
      go_ret
      refine ⟨congrArg (fun z => Ending.returned (.int .i64 z)) ?_, rfl⟩
      omega
def hd5K (k n j : Nat) : List Nat := k :: ((numL n 4).take j ++ List.replicate (4 - j) 0)
set_option maxRecDepth 100000 in
set_option maxHeartbeats 1600000 in
theorem p_head (kd n : Nat) (w : World) (hk : kd < 256) (hn : n < 4294967296) : Calls Try.prog 58 #[.int .u8 (kd : Int), .int .u32 (n : Int)] w (OwnRet ((kd :: numL n 4) ++ tailL (crcB 0#32 (kd :: numL n 4))) w) := by
  obtain ⟨i0, hi0, hz0, hz1, hz2⟩ := info_parts info_u8
  obtain ⟨out, hout⟩ : ∃ out, (kd :: numL n 4) ++ tailL (crcB 0#32 (kd :: numL n 4)) = out := ⟨_, rfl⟩
  rw [hout]
  have Hout := hide hout
  clear hout
  go_enter Try.func58, Try.ntmps58
  go_upto_region 2 with (refine wpList_make_full _ rfl (.const (.int .i64 5)) (.const (.int .i64 5)) 22 rfl w.heap.size 5 i0 (.int .u8 0) 1 Try.underlying22 hi0 hz0 hz1 .i64 .i64 5 5 5 rfl rfl rfl rfl (by rw [hz2]; omega) (by unfold maxLen; omega) (Nat.le_refl _) ?_; intro w1 hown hg)
  have hb := own_all hown
  rw [made8] at hb
  have E : Below w.heap.size w w1 := (Below.refl _ _).grown hg (Nat.le_refl _) (by simp)
  obtain ⟨g, hgg⟩ : ∃ g, w.heap.size = g := ⟨_, rfl⟩
  rw [hgg] at hb ⊢
  have HG := hide hgg
  have B := hide (show Blk w1 g 5 (u8s (List.replicate 5 0)).toArray from hb.1)
  have E := hide E
  have hf := B.out.frozen 0
  have hc : w1.cell? ⟨g, 0, none⟩ = some (.int .u8 0) := by rw [B.out.cell]; simp [u8s]
  clear hown hg hb hgg
  go_upto_region 3 with fail
  have B : Hid (Blk (w1.setCell ⟨g, 0, none⟩ (.int .u8 (kd : Int))) g 5 (u8s (hd5K kd n 0)).toArray) := by
    have := B.out.set_ 0 (.int .u8 (kd : Int))
    have e : (u8s (List.replicate 5 0)).toArray.setIfInBounds 0 (.int .u8 (kd : Int)) = (u8s (hd5K kd n 0)).toArray := by simp [hd5K, u8s, List.replicate]
    rw [e] at this
    exact this
  have E : Hid (Below w.heap.size w (w1.setCell ⟨g, 0, none⟩ (.int .u8 (kd : Int)))) := hide (E.out.setCell (by have := HG.out; (try show w.heap.size ≤ g); omega) _)
  obtain ⟨w2, hw2⟩ : ∃ w2, w1.setCell ⟨g, 0, none⟩ (.int .u8 (kd : Int)) = w2 := ⟨_, rfl⟩
  rw [hw2] at B E ⊢
  clear hw2 hf hc
  go_wp2_with fail
  go_loopw [11] (fun i wr => ∃ k : Nat, k ≤ 4 ∧ i = .int .i64 k ∧ Hid (Blk wr g 5 (u8s (hd5K kd n k)).toArray) ∧ Hid (Below w.heap.size w wr)) (fun i _ => 4 - (intOf i).toNat)
  case atStart => exact ⟨0, by omega, rfl, B, E⟩
  case round =>
    clear B E
    obtain ⟨k, hk, rfl, B, E⟩ := hrel
    by_cases hlt : k < 4
    · have hcc : k = 0 ∨ k = 1 ∨ k = 2 ∨ k = 3 := by omega
      have hf := B.out.frozen (1 + k)
      have hc : wr.cell? ⟨g, 1 + k, none⟩ = some (.int .u8 0) := by
        rw [B.out.cell]
        rcases hcc with rfl | rfl | rfl | rfl <;> simp [hd5K, numL, u8s]
      rcases hcc with rfl | rfl | rfl | rfl
      · go_wp2_with fail
        go_roundw
        case rel => exact ⟨1, by omega, rfl, hide (by simpa [hd5K, numL, u8s] using B.out.set_ 1 (Value.int .u8 ((n : Int) % 256))), hide (E.out.setCell (by have := HG.out; (try show w.heap.size ≤ g); omega) _)⟩
        case measure => simp [intOf]
      · go_wp2_with fail
        go_roundw
        case rel => exact ⟨2, by omega, rfl, hide (by simpa [hd5K, numL, u8s] using B.out.set_ 2 (Value.int .u8 ((n : Int) / 256 % 256))), hide (E.out.setCell (by have := HG.out; (try show w.heap.size ≤ g); omega) _)⟩
        case measure => simp [intOf]
      · go_wp2_with fail
        go_roundw
        case rel => exact ⟨3, by omega, rfl, hide (by simpa [hd5K, numL, u8s] using B.out.set_ 3 (Value.int .u8 ((n : Int) / 65536 % 256))), hide (E.out.setCell (by have := HG.out; (try show w.heap.size ≤ g); omega) _)⟩
        case measure => simp [intOf]
      · go_wp2_with fail
        go_roundw
        case rel => exact ⟨4, by omega, rfl, hide (by have e : (n : Int) / 16777216 = (n : Int) / 16777216 % 256 := by omega
                                                      rw [e]; simpa [hd5K, numL, u8s] using B.out.set_ 4 (Value.int .u8 ((n : Int) / 16777216 % 256))), hide (E.out.setCell (by have := HG.out; (try show w.heap.size ≤ g); omega) _)⟩
        case measure => simp [intOf]
    · obtain rfl : k = 4 := by omega
      have e : hd5K kd n 4 = kd :: numL n 4 := by simp [hd5K, numL]
      have hb5 : IsB (kd :: numL n 4) := by
        have := (IsB.one ‹kd < 256›).app (numL_b n 4)
        exact this
      have hO : OwnB w.heap.size wr (.slice (some ⟨g, 0, none⟩) 5 5) (kd :: numL n 4) := by
        refine own_of (m := []) (by have := HG.out; omega) ?_ (by simp [numL_len]) rfl (by omega) hb5
        rw [List.append_nil, ← e]
        exact B.out
      obtain ⟨A', c', hv, _, _, hby⟩ := hO.at_
      simp only [Value.slice.injEq] at hv
      obtain ⟨rfl, -, -⟩ := hv
      have KA : Hid (Calls Try.prog 59 #[.slice (some ⟨g, 0, none⟩) 5 5] wr (OwnRet out wr)) := by
        rw [← Hout.out]; exact p_append _ 5 5 _ wr hby (by simp [numL_len]) (by omega)
      clear hO hby hb5 e B
      go_wp2_with (go_at_call 59; (with_reducible refine (KA.out).mono ?_); rintro e w3 ⟨v, rfl, hO, hE⟩)
      go_ret
      exact ⟨_, rfl, hO.less E.out.size, Ext.trans E.out hE⟩
end Go.Proofs.Ytdboaogdanahkaa
