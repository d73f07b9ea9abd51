/- The library's Grow and Concat of two slices of bytes; the program's Append. Conditions: the slice reads as at most 2^47 - 8 bytes. -/
import Derived.Test.YtdboaogdanahkaaCrcD
import Derived.Test.YtdboaogdanahkaaByB
import Derived.Lib.AppendZerosOnto
import Derived.Test.YtdboaogdanahkaaBase
namespace Go.Proofs.Ytdboaogdanahkaa
set_option linter.unusedVariables false
set_option linter.unusedSimpArgs false
open Go Go.RowKit
def GrowRet (W : World) (e : Ending) (w' : World) : Prop := ∃ v, e = .returned v ∧ OwnB W.heap.size w' v [] ∧ Below W.heap.size W w'
set_option maxHeartbeats 1600000 in
set_option maxRecDepth 100000 in
theorem p_grow (n : Nat) (W : World) (h1 : 1 ≤ n) (hn : n ≤ 140737488355328) : Calls Try.prog 96 #[.slice none 0 0, .int .i64 (n : Int)] W (GrowRet W) := by
  obtain ⟨i0, hi0, hz0, hz1, hz2⟩ := info_parts info_u8
  have g1 : ¬ ((n : Int) < 0) := by omega
  have g2 : (0 : Int) < (n : Int) := by omega
  have tb : Try.t5.bytes = 1 := by kernel_rfl
  have hns : Builtin.nextslicecap n 0 = n := by unfold Builtin.nextslicecap; rw [if_pos (by omega)]
  have h0 : ¬ n = 0 := by omega
  have G1 := hide (grownCap_ge W n 0 5)
  have G2 := hide (grownCap_le_maxLen W n 0 5 (by unfold maxLen; omega))
  go_enter Try.func96, Try.ntmps96
  go_wp2_with fail
  go_ret
  refine ⟨_, rfl, ⟨?_, IsB.nil⟩, (Below.alloc (Below.refl _ _) (Nat.le_refl _) _).drew⟩
  refine World.ownsRow.drew ?_
  refine World.ownsRow_made W _ (grownCap W n 0 5) (Nat.le_refl _) G2.out ?_
  rw [Array.size_append, size_zeroCells, size_zeroCells]
  have := G1.out
  show n * 1 + (grownCap W n 0 5 - n) * 1 = _
  omega
def szAt (c d k : Nat) : Nat := if k = 0 then 0 else if k = 1 then c else c + d
def catAt (l m : List Nat) (k : Nat) : List Nat := if k = 0 then [] else if k = 1 then l else l ++ m
set_option maxHeartbeats 1600000 in
set_option maxRecDepth 100000 in
theorem p_concat (g : Nat) (A A' : Option Addr) (c cap d cap' : Nat) (l m : List Nat) (W : World) (hg : Blk W g 22 #[.slice A c cap, .slice A' d cap']) (hl : BytesAt W A l) (hm : BytesAt W A' m) (hc : l.length = c) (hd : m.length = d) (h1 : 1 ≤ c + d) (h2 : c + d ≤ 140737488355328) :
    Calls Try.prog 77 #[.slice (some ⟨g, 0, none⟩) 2 2] W (OwnRet (l ++ m) W) := by
  have HL := hide hl
  have HM := hide hm
  have HG := hide hg
  have HC := hide hc
  have HD := hide hd
  have KG : Hid (Calls Try.prog 96 #[.slice none 0 0, .int .i64 ((szAt c d 2 : Nat) : Int)] W (GrowRet W)) := p_grow (szAt c d 2) W (by simp [szAt]; omega) (by simp [szAt]; omega)
  have c0 := hg.cell 0
  have c1 := hg.cell 1
  have c0 : W.cell? ⟨g, 0, none⟩ = some (.slice A c cap) := c0
  have c1 : W.cell? ⟨g, 1, none⟩ = some (.slice A' d cap') := c1
  clear hl hm hg hc hd
  go_enter Try.func77, Try.ntmps77
  go_wp2_with fail
  go_loop [3, 11] (fun s i => ∃ k : Nat, k ≤ 2 ∧ i = .int .i64 k ∧ s = .int .i64 (szAt c d k : Int)) (fun _ i => 2 - (intOf i).toNat)
  case atStart => exact ⟨0, by omega, rfl, rfl⟩
  case round =>
    obtain ⟨k, hk, rfl, rfl⟩ := hrel
    have hcc : k = 0 ∨ k = 1 ∨ k = 2 := by omega
    rcases hcc with rfl | rfl | rfl
    · have e0 : szAt c d 0 = 0 := rfl
      rw [e0]
      clear e0
      go_wp2_with fail
      go_round
      case rel => exact ⟨1, by omega, rfl, rfl⟩
      case measure => simp [intOf]
    · have e0 : szAt c d 1 = c := rfl
      rw [e0]
      clear e0
      go_wp2_with fail
      go_round
      case rel => exact ⟨2, by omega, rfl, congrArg (Value.int .i64) (by simp [szAt])⟩
      case measure => simp [intOf]
    · have hq : ¬ ((szAt c d 2 : Nat) : Int) < 0 := by omega
      go_wp2_with (go_at_call 96; (with_reducible refine (KG.out).mono ?_); rintro e w1 ⟨v1, rfl, hO, hE⟩; have HO := hide hO; have HE := hide hE; clear hO hE)
      go_loopw [6, 27] (fun v i wr => ∃ k : Nat, k ≤ 2 ∧ i = .int .i64 k ∧ Hid (OwnB W.heap.size wr v (catAt l m k)) ∧ Hid (Below W.heap.size W wr)) (fun _ i _ => 2 - (intOf i).toNat)
      case atStart => exact ⟨0, by omega, rfl, HO, HE⟩
      case round =>
        clear HO HE
        obtain ⟨k, hk, rfl, HO, HE⟩ := hrel
        have hcc : k = 0 ∨ k = 1 ∨ k = 2 := by omega
        have gl := HG.out.lt
        have d0 : wr.cell? ⟨g, 0, none⟩ = some (.slice A c cap) := (HE.out.cell (p := ⟨g, 0, none⟩) gl).trans c0
        have d1 : wr.cell? ⟨g, 1, none⟩ = some (.slice A' d cap') := (HE.out.cell (p := ⟨g, 1, none⟩) gl).trans c1
        have hB := HE.out.size
        rcases hcc with rfl | rfl | rfl
        · have hb := hide (HL.out.ext HE.out)
          have O0 : Hid (OwnB W.heap.size wr u6 []) := HO
          have hlen : ([] : List Nat).length + l.length ≤ 140737488355328 := by have := HC.out; simp; omega
          clear HO
          go_wp2_with (at_builtin; refine wl_append8 rfl (.tmp 31) (.tmp 32) rfl W.heap.size _ [] l rfl O0.out A c cap rfl hb.out HC.out hlen hB ?_; intro v2 w2 hO2 hG2 hA2; have hE2 := hide (below_grown HE.out (Nat.le_refl _) O0.out hG2); have hO2 := hide hO2; clear hG2 hA2)
          go_roundw
          case rel => exact ⟨1, by omega, rfl, hO2, hE2⟩
          case measure => simp [intOf]
        · have hb := hide (HM.out.ext HE.out)
          have O0 : Hid (OwnB W.heap.size wr u6 l) := HO
          have hlen : l.length + m.length ≤ 140737488355328 := by have := HC.out; have := HD.out; omega
          clear HO
          go_wp2_with (at_builtin; refine wl_append8 rfl (.tmp 31) (.tmp 32) rfl W.heap.size _ l m rfl O0.out A' d cap' rfl hb.out HD.out hlen hB ?_; intro v2 w2 hO2 hG2 hA2; have hE2 := hide (below_grown HE.out (Nat.le_refl _) O0.out hG2); have hO2 := hide hO2; clear hG2 hA2)
          go_roundw
          case rel => exact ⟨2, by omega, rfl, hO2, hE2⟩
          case measure => simp [intOf]
        · go_wp2_with fail
          go_ret
          exact ⟨_, rfl, HO.out, HE.out⟩
set_option maxHeartbeats 1600000 in
set_option maxRecDepth 100000 in
theorem p_append (A : Option Addr) (c cap : Nat) (l : List Nat) (W : World) (h : BytesAt W A l) (hc : l.length = c) (hlen : c ≤ 140737488355320) :
    Calls Try.prog 59 #[.slice A c cap] W (OwnRet (l ++ tailL (crcB 0#32 l)) W) := by
  have KS : Hid (∀ w, Ext W w → Calls Try.prog 79 #[.slice A c cap] w (CrcRet (crcB 0#32 l) w)) := fun w e => by subst hc; exact p_sum A cap l w (h.ext e)
  obtain ⟨x, hx⟩ : ∃ x, crcB 0#32 l = x := ⟨_, rfl⟩
  rw [hx] at KS ⊢
  have KC : Hid (∀ (w : World) A' c', Ext W w → BytesAt w A' (tailL x) → Calls Try.prog 77 #[.slice (some ⟨w.heap.size, 0, none⟩) 2 2] (w.alloc (.cells #[.slice A c cap, .slice A' 4 c'] 22)) (OwnRet (l ++ tailL x) (w.alloc (.cells #[.slice A c cap, .slice A' 4 c'] 22)))) := fun w A' c' e hb =>
    p_concat w.heap.size A A' c cap 4 c' l (tailL x) _ (Blk.new w _ _) ((h.ext e).ext (ext_alloc _ _)) (hb.ext (ext_alloc _ _)) hc rfl (by omega) (by omega)
  clear hx h hc
  go_enter Try.func59, Try.ntmps59
  go_wp2_with (first
    | (go_at_call 79; (with_reducible refine (KS.out _ (Ext.refl _)).mono ?_); rintro e w1 ⟨rfl, hE⟩)
    | (go_at_call 78; (with_reducible refine (p_tail _ _).mono ?_); rintro e w2 ⟨v, rfl, hO, hE2⟩; obtain ⟨A', c', hv, _, _, hb⟩ := hO.at_; have hv : v = .slice A' 4 c' := hv; subst hv; have kc := hide (KC.out w2 A' c' (hE.trans hE2) hb); have hE3 := hide (hE.trans hE2); clear hO hb)
    | (go_at_call 77; (with_reducible refine (kc.out).mono ?_); rintro e w3 ⟨v, rfl, hO3, hE4⟩))
  go_ret
  exact ⟨_, rfl, hO3.less (by have := hE3.out.size; simp; omega), (hE3.out.trans (ext_alloc _ _)).trans hE4⟩
end Go.Proofs.Ytdboaogdanahkaa
