/- CRC-32C: the bytes of a checksum; bytes.Equal. Conditions: the slices read as bytes. -/
import Derived.Test.YtdboaogdanahkaaCrcC
import Derived.Shelf.Bytes.SlEqualAll
import Derived.Test.YtdboaogdanahkaaBase
namespace Go.Proofs.Ytdboaogdanahkaa
set_option linter.unusedVariables false
set_option linter.unusedSimpArgs false
open Go Go.RowKit
def tailL (x : BitVec 32) : List Nat := [x.toNat % 256, x.toNat / 256 % 256, x.toNat / 65536 % 256, x.toNat / 16777216 % 256]
def tailK (x : BitVec 32) (k : Nat) : List Nat := (tailL x).take k ++ List.replicate (4 - k) 0
theorem tailL_b (x : BitVec 32) : IsB (tailL x) := by
  have := x.isLt
  intro y hy; simp [tailL] at hy; omega
set_option maxRecDepth 100000 in
theorem p_tail (x : BitVec 32) (w : World) : Calls Try.prog 78 #[.int .u32 (x.toNat : Int)] w (OwnRet (tailL x) w) := by
  have hx := x.isLt
  obtain ⟨i0, hi0, hz0, hz1, hz2⟩ := info_parts info_u8
  go_enter Try.func78, Try.ntmps78
  go_wp2_with (refine wpList_make_full _ rfl (.const (.int .i64 4)) (.const (.int .i64 4)) 22 rfl w.heap.size 5 i0 (.int .u8 0) 1 Try.underlying22 hi0 hz0 hz1 .i64 .i64 4 4 4 rfl rfl rfl rfl (by rw [hz2]; omega) (by unfold maxLen; omega) (Nat.le_refl _) ?_; intro w1 hown hg)
  have hb := own_all hown
  rw [made8] at hb
  have E : Below w.heap.size w w1 := (Below.refl _ _).grown hg (Nat.le_refl _) (by simp)
  obtain ⟨g, hgg⟩ : ∃ g, w.heap.size = g := ⟨_, rfl⟩
  rw [hgg] at hb ⊢
  have HG := hide hgg
  have B := hide (show Blk w1 g 5 (u8s (tailK x 0)).toArray from hb.1)
  have E := hide E
  clear hown hg hb hgg
  go_loopw [8] (fun i wr => ∃ k : Nat, k ≤ 4 ∧ i = .int .i64 k ∧ Hid (Blk wr g 5 (u8s (tailK x k)).toArray) ∧ Hid (Below w.heap.size w wr)) (fun i _ => 4 - (intOf i).toNat)
  case atStart => exact ⟨0, by omega, rfl, B, E⟩
  case round =>
    clear B E
    obtain ⟨k, hk, rfl, B, E⟩ := hrel
    by_cases hlt : k < 4
    · have hcc : k = 0 ∨ k = 1 ∨ k = 2 ∨ k = 3 := by omega
      have hf := B.out.frozen k
      have hc : wr.cell? ⟨g, k, none⟩ = some (.int .u8 0) := by
        rw [B.out.cell]
        rcases hcc with rfl | rfl | rfl | rfl <;> simp [tailK, tailL, u8s]
      rcases hcc with rfl | rfl | rfl | rfl
      · go_wp2_with fail
        go_roundw
        case rel => exact ⟨1, by omega, rfl, hide (by simpa [tailK, tailL, u8s] using B.out.set_ 0 (Value.int .u8 ((x.toNat : Int) % 256))), hide (E.out.setCell (by have := HG.out; (try show w.heap.size ≤ g); omega) _)⟩
        case measure => simp [intOf]
      · go_wp2_with fail
        go_roundw
        case rel => exact ⟨2, by omega, rfl, hide (by simpa [tailK, tailL, u8s] using B.out.set_ 1 (Value.int .u8 ((x.toNat : Int) / 256 % 256))), hide (E.out.setCell (by have := HG.out; (try show w.heap.size ≤ g); omega) _)⟩
        case measure => simp [intOf]
      · go_wp2_with fail
        go_roundw
        case rel => exact ⟨3, by omega, rfl, hide (by simpa [tailK, tailL, u8s] using B.out.set_ 2 (Value.int .u8 ((x.toNat : Int) / 65536 % 256))), hide (E.out.setCell (by have := HG.out; (try show w.heap.size ≤ g); omega) _)⟩
        case measure => simp [intOf]
      · go_wp2_with fail
        go_roundw
        case rel => exact ⟨4, by omega, rfl, hide (by have e : (x.toNat : Int) / 16777216 = (x.toNat : Int) / 16777216 % 256 := by omega
                                                      rw [e]; simpa [tailK, tailL, u8s] using B.out.set_ 3 (Value.int .u8 ((x.toNat : Int) / 16777216 % 256))), hide (E.out.setCell (by have := HG.out; (try show w.heap.size ≤ g); omega) _)⟩
        case measure => simp [intOf]
    · obtain rfl : k = 4 := by omega
      go_wp2_with fail
      go_ret
      have e : tailK x 4 = tailL x := by simp [tailK, tailL]
      refine ⟨_, rfl, own_of (m := []) (l := tailL x) (by have := HG.out; omega) ?_ rfl rfl (by omega) (tailL_b x), E.out⟩
      rw [List.append_nil, ← e]
      exact B.out
theorem strOf_inj {l m : List Nat} (hl : IsB l) (hm : IsB m) : ((strOfNums (l.map fun x : Nat => (x : Int))).toList == (strOfNums (m.map fun x : Nat => (x : Int))).toList) = decide (l = m) := by
  by_cases h : l = m
  · subst h; simp
  · rw [decide_eq_false h, beq_eq_false_iff_ne]
    intro e1
    apply h
    rw [ByteArray.toList_eq, ByteArray.toList_eq, strOfNums_data, strOfNums_data, List.map_map, List.map_map] at e1
    have back : ∀ (l : List Nat), IsB l → (l.map ((fun n : Int => UInt8.ofNat n.toNat) ∘ fun x : Nat => (x : Int))).map (·.toNat) = l := by
      intro l hl
      rw [List.map_map]
      conv => rhs; rw [← List.map_id l]
      apply List.map_congr_left
      intro x hx
      have := hl x hx
      simp; omega
    have e2 := congrArg (List.map (·.toNat)) e1
    rw [back l hl, back m hm] at e2
    exact e2
theorem conv_str {w : World} {A : Option Addr} {l : List Nat} (h : BytesAt w A l) (n cap : Nat) (hn : l.length = n) : (convert 22 9 (.slice A n cap)).run Try.prog w = .ok (.string (strOfNums (l.map fun x : Nat => (x : Int)))) w := by
  rcases Nat.eq_zero_or_pos l.length with h0 | h0
  · obtain rfl : l = [] := List.length_eq_zero_iff.1 h0
    subst hn
    exact Go.Proofs.run_convert_bytes_zero w 22 5 Try.underlying22 Try.underlying5 A cap 9 Try.underlying9
  · obtain ⟨b, off, rfl, hb, hc⟩ := h.2.2 h0
    refine run_convert_bytes_arg w 22 5 Try.underlying22 Try.underlying5 b off n cap _ (by simp [hn]) (fun i hi => ?_) 9 Try.underlying9
    rw [hc i (by omega)]
    simp [List.getD_eq_getElem?_getD, show i < l.length by omega]
theorem p_equal (A A' : Option Addr) (n n' cap cap' : Nat) (l m : List Nat) (w : World) (hl : BytesAt w A l) (hm : BytesAt w A' m) (hn : l.length = n) (hn' : m.length = n') (v : Bool) (hv : decide (l = m) = v) :
    Calls Try.prog 99 #[.slice A n cap, .slice A' n' cap'] w (RetSame (.bool v) w) := by
  have c1 := conv_str hl n cap hn
  have c2 := conv_str hm n' cap' hn'
  have e := strOf_inj hl.1 hm.1
  rw [hv] at e
  generalize strOfNums (l.map fun x : Nat => (x : Int)) = s1 at c1 e
  generalize strOfNums (m.map fun x : Nat => (x : Int)) = s2 at c2 e
  clear hv hn hn' hl hm
  go_enter Try.func99, Try.ntmps99
  go_wp2_with fail
  go_ret
  exact ⟨by rw [← e]; rfl, rfl⟩
end Go.Proofs.Ytdboaogdanahkaa
