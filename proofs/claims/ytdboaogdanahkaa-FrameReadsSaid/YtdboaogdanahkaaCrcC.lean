/- CRC-32C: Update and Sum of the program and of the reference. Conditions: the slice reads as bytes. -/
import Derived.Test.YtdboaogdanahkaaCrcB
import Derived.Test.YtdboaogdanahkaaByA
namespace Go.Proofs.Ytdboaogdanahkaa
set_option linter.unusedVariables false
set_option linter.unusedSimpArgs false
open Go Go.RowKit
def CrcRet (x : BitVec 32) (w : World) (e : Ending) (w' : World) : Prop := e = .returned (.int .u32 (x.toNat : Int)) ∧ Ext w w'
theorem runB_take (c : BitVec 32) {l : List Nat} {k : Nat} (h : k < l.length) : runB c (l.take (k + 1)) = updB (runB c (l.take k)) (l.getD k 0) := by
  rw [take_succ h, runB_append]; rfl
theorem not32 (x : BitVec 32) : bits .xor .u32 IntKind.u32.max (x.toNat : Int) = ((~~~x).toNat : Int) := by
  have h := xor32 (BitVec.allOnes 32) x
  have e : (((BitVec.allOnes 32).toNat : Nat) : Int) = IntKind.u32.max := by decide
  rw [e, BitVec.allOnes_xor] at h
  exact h
theorem and32 (x y : BitVec 32) : bits .and .u32 (x.toNat : Int) (y.toNat : Int) = ((x &&& y).toNat : Int) := by
  show IntKind.u32.wrap ((BitVec.ofInt 32 (x.toNat : Int) &&& BitVec.ofInt 32 (y.toNat : Int)).toNat : Int) = _
  rw [ofInt32, ofInt32]
  exact wrap_u32 _ (x &&& y).isLt
theorem xor8 (a b : Nat) (ha : a < 256) (hb : b < 256) : bits .xor .u8 (a : Int) (b : Int) = ((a ^^^ b : Nat) : Int) := by
  show IntKind.u8.wrap ((BitVec.ofInt 8 (a : Int) ^^^ BitVec.ofInt 8 (b : Int)).toNat : Int) = _
  rw [BitVec.toNat_xor]
  have e1 : (BitVec.ofInt 8 (a : Int)).toNat = a := by rw [BitVec.toNat_ofInt]; omega
  have e2 : (BitVec.ofInt 8 (b : Int)).toNat = b := by rw [BitVec.toNat_ofInt]; omega
  rw [e1, e2]
  have : a ^^^ b < 2 ^ 8 := Nat.xor_lt_two_pow (by omega) (by omega)
  simp [IntKind.wrap, IntKind.bits, IntKind.signed]; omega
theorem byte_ix (x : BitVec 32) (v : Nat) (hv : v < 256) : (x ^^^ BitVec.ofNat 32 v) &&& 255#32 = BitVec.ofNat 32 ((x.toNat % 256) ^^^ v) := by
  apply BitVec.eq_of_toNat_eq
  rw [low_byte x v hv, BitVec.toNat_ofNat]
  have : (x.toNat % 256) ^^^ v < 2 ^ 8 := Nat.xor_lt_two_pow (by omega) (by omega)
  omega
theorem crc_step (x : BitVec 32) (v : Nat) (hv : v < 256) : bits .xor .u32 ((elN ((x.toNat % 256) ^^^ v)).toNat : Int) ((x.toNat : Int) / (256 : Int)) = ((updB x v).toNat : Int) := by
  have e : (x.toNat : Int) / (256 : Int) = ((x >>> 8).toNat : Int) := by
    rw [BitVec.toNat_ushiftRight, Nat.shiftRight_eq_div_pow]; omega
  rw [e, xor32]
  unfold updB elN
  rw [byte_ix x v hv]
theorem new256 (w : World) : (w.alloc (.cells Try.zeroCells121 121)).heap[w.heap.size]? = some (.cells (tcells 0) 121 (0, 0)) := by
  rw [zero256]; exact Blk.new w _ _
theorem full256 (w : World) : Blk ((w.alloc (.cells Try.zeroCells121 121)).setRow w.heap.size (tcells 256)) w.heap.size 121 (tcells 256) := by
  have : Blk (w.alloc (.cells Try.zeroCells121 121)) w.heap.size 121 (tcells 0) := new256 w
  exact this.setRow _
set_option maxRecDepth 100000 in
theorem p_update (c : BitVec 32) (A : Option Addr) (cap : Nat) (l : List Nat) (W : World) (h : BytesAt W A l) :
    Calls Try.prog 97 #[.int .u32 (c.toNat : Int), .slice A l.length cap] W (CrcRet (crcB c l) W) := by
  obtain ⟨n, hn⟩ : ∃ n, l.length = n := ⟨_, rfl⟩
  have hlen := h.2.1
  rw [hn] at hlen ⊢
  have Hn := hide hn
  have H := hide h
  clear hn h
  go_enter Try.func97, Try.ntmps97
  go_wp2_with (first
    | (go_at_call 102; (with_reducible refine (p_table _).mono ?_); rintro e w1 ⟨rfl, hE⟩)
    | (refine wpList_store_row rfl 121 (.tmp 5) (.tmp 8) rfl w1.heap.size (tcells 256) rfl rfl 121 (tcells 0) (new256 w1) (by rw [info256, tcells_size]) (by rw [tcells_size, tcells_size]) (tcells_one 256) ?_))
  have F := full256 w1
  have E : Below W.heap.size W ((w1.alloc (.cells Try.zeroCells121 121)).setRow w1.heap.size (tcells 256)) :=
    ext_setRow (Below.alloc hE hE.size _) hE.size _
  obtain ⟨w3, hw3⟩ : ∃ w3, w3 = (w1.alloc (.cells Try.zeroCells121 121)).setRow w1.heap.size (tcells 256) := ⟨_, rfl⟩
  rw [← hw3] at F E ⊢
  obtain ⟨g, hg⟩ : ∃ g, w1.heap.size = g := ⟨_, rfl⟩
  rw [hg] at F ⊢
  have F := hide F
  have E : Hid (Ext W w3) := hide E
  clear hw3 hg hE
  go_loop [0, 13] (fun t i => ∃ k : Nat, k ≤ n ∧ i = .int .i64 k ∧ t = .int .u32 ((runB (~~~c) (l.take k)).toNat : Int)) (fun _ i => n - (intOf i).toNat)
  case atStart => exact ⟨0, by omega, rfl, by rw [not32]; rfl⟩
  case round =>
    obtain ⟨k, hk, rfl, rfl⟩ := hrel
    obtain ⟨x, hx⟩ : ∃ x, runB (~~~c) (l.take k) = x := ⟨_, rfl⟩
    rw [hx]
    by_cases hlt : k < n
    · have hkl : k < l.length := by rw [Hn.out]; exact hlt
      have hst := hide (runB_take (~~~c) hkl)
      obtain ⟨b, off, rfl, hb, hc⟩ := (H.out.ext E.out).2.2 (by omega)
      have hcv := hc k hkl
      have hv := (H.out.1).get k
      rw [hx] at hst
      obtain ⟨v, hv'⟩ : ∃ v, l.getD k 0 = v := ⟨_, rfl⟩
      rw [hv'] at hst hcv hv
      clear hc hv' hkl hx
      have hxs := x.isLt
      obtain ⟨j, hj⟩ : ∃ j, (x.toNat % 256) ^^^ v = j := ⟨_, rfl⟩
      have hj256 : j < 256 := by rw [← hj]; exact Nat.xor_lt_two_pow (n := 8) (by omega) (by omega)
      have hstep := hide (crc_step x v hv)
      have hxor := xor8 (x.toNat % 256) v (by omega) hv
      rw [hj] at hstep hxor
      have ec : ((x.toNat % 256 : Nat) : Int) = (x.toNat : Int) % (256 : Int) := by omega
      rw [ec] at hxor
      clear ec
      have hi := idxT .u8 g j hj256
      have hcj : w3.cell? ⟨g, j, none⟩ = some (.int .u32 ((elN j).toNat : Int)) := by rw [F.out.cell, tcells_get _ _ hj256, if_pos hj256]
      clear hj
      go_wp2_with fail
      go_round
      case rel => exact ⟨k + 1, by omega, by go_num, by rw [hst.out]; exact congrArg (Value.int .u32) hstep.out⟩
      case measure => simp [intOf]; omega
    · obtain rfl : k = n := by omega
      have hx' := hide hx
      clear hx
      have nx := hide (not32 x)
      go_wp2_with fail
      go_ret
      refine ⟨?_, E.out⟩
      unfold crcB
      have e : l.take k = l := List.take_of_length_le (by have := Hn.out; omega)
      have hx2 := hx'.out
      rw [e] at hx2
      rw [hx2, ← nx.out]
      rfl
set_option maxRecDepth 100000 in
theorem r_update (c : BitVec 32) (A : Option Addr) (cap : Nat) (l : List Nat) (W : World) (h : BytesAt W A l) :
    Calls Try.prog 80 #[.int .u32 (c.toNat : Int), .slice A l.length cap] W (CrcRet (crcB c l) W) := by
  obtain ⟨n, hn⟩ : ∃ n, l.length = n := ⟨_, rfl⟩
  have hlen := h.2.1
  rw [hn] at hlen ⊢
  have Hn := hide hn
  have H := hide h
  clear hn h
  go_enter Try.func80, Try.ntmps80
  go_wp2_with fail
  go_loop [0, 5] (fun t i => ∃ k : Nat, k ≤ n ∧ i = .int .i64 k ∧ t = .int .u32 ((runB (~~~c) (l.take k)).toNat : Int)) (fun _ i => n - (intOf i).toNat)
  case atStart => exact ⟨0, by omega, rfl, by rw [not32]; rfl⟩
  case round =>
    obtain ⟨k, hk, rfl, rfl⟩ := hrel
    obtain ⟨x, hx⟩ : ∃ x, runB (~~~c) (l.take k) = x := ⟨_, rfl⟩
    rw [hx]
    by_cases hlt : k < n
    · have hkl : k < l.length := by rw [Hn.out]; exact hlt
      have hst := hide (runB_take (~~~c) hkl)
      obtain ⟨b, off, rfl, hb, hc⟩ := H.out.2.2 (by omega)
      have hcv := hc k hkl
      have hv := (H.out.1).get k
      rw [hx] at hst
      obtain ⟨v, hv'⟩ : ∃ v, l.getD k 0 = v := ⟨_, rfl⟩
      rw [hv'] at hst hcv hv
      clear hc hv' hkl hx
      have hxs := x.isLt
      obtain ⟨z, hz, ke⟩ : ∃ z : Int, bits .and .u32 (bits .xor .u32 (x.toNat : Int) (v : Int)) 255 = z ∧ Hid (∀ w, Calls Try.prog 98 #[.int .u32 z] w (Ret32 (elB ((x ^^^ BitVec.ofNat 32 v) &&& 255#32)) w)) := by
        refine ⟨_, rfl, fun w => ?_⟩
        have := r_element ((x ^^^ BitVec.ofNat 32 v) &&& 255#32) w
        unfold B32 at this
        rw [← and32, ← xor32] at this
        have e : ((BitVec.ofNat 32 v).toNat : Int) = (v : Int) := by rw [BitVec.toNat_ofNat]; omega
        have e2 : ((255#32).toNat : Int) = 255 := by decide
        rw [e, e2] at this
        exact this
      obtain ⟨y, hy⟩ : ∃ y, elB ((x ^^^ BitVec.ofNat 32 v) &&& 255#32) = y := ⟨_, rfl⟩
      have hstep : Hid (bits .xor .u32 (y.toNat : Int) ((x.toNat : Int) / (256 : Int)) = ((updB x v).toNat : Int)) := by
        have := crc_step x v hv
        unfold elN at this
        rw [← byte_ix x v hv, hy] at this
        exact this
      rw [hy] at ke
      clear hy
      go_wp2_with (go_at_call 98; (with_reducible refine (ke.out _).mono ?_); rintro e w' ⟨rfl, rfl⟩; unfold B32)
      go_round
      case rel => exact ⟨k + 1, by omega, by go_num, by rw [hst.out]; exact congrArg (Value.int .u32) hstep.out⟩
      case measure => simp [intOf]; omega
    · obtain rfl : k = n := by omega
      have hx' := hide hx
      clear hx
      have nx := hide (not32 x)
      go_wp2_with fail
      go_ret
      refine ⟨?_, Ext.refl _⟩
      unfold crcB
      have e : l.take k = l := List.take_of_length_le (by have := Hn.out; omega)
      have hx2 := hx'.out
      rw [e] at hx2
      rw [hx2, ← nx.out]
      rfl
theorem p_sum (A : Option Addr) (cap : Nat) (l : List Nat) (W : World) (h : BytesAt W A l) :
    Calls Try.prog 79 #[.slice A l.length cap] W (CrcRet (crcB 0#32 l) W) := by
  have k : Hid (∀ n, n = l.length → Calls Try.prog 97 #[.int .u32 0, .slice A n cap] W (CrcRet (crcB 0#32 l) W)) := fun n hn => by subst hn; exact p_update 0#32 A cap l W h
  obtain ⟨n, hn⟩ : ∃ n, l.length = n := ⟨_, rfl⟩
  rw [hn]
  have K := hide (k.out n hn.symm)
  clear hn k
  go_enter Try.func79, Try.ntmps79
  go_wp2_with (go_at_call 97; (with_reducible refine K.out.mono ?_); rintro e w' ⟨rfl, hE⟩)
  go_ret
  exact ⟨rfl, hE⟩
theorem r_sum (A : Option Addr) (cap : Nat) (l : List Nat) (W : World) (h : BytesAt W A l) :
    Calls Try.prog 60 #[.slice A l.length cap] W (CrcRet (crcB 0#32 l) W) := by
  have k : Hid (∀ n, n = l.length → Calls Try.prog 80 #[.int .u32 0, .slice A n cap] W (CrcRet (crcB 0#32 l) W)) := fun n hn => by subst hn; exact r_update 0#32 A cap l W h
  obtain ⟨n, hn⟩ : ∃ n, l.length = n := ⟨_, rfl⟩
  rw [hn]
  have K := hide (k.out n hn.symm)
  clear hn k
  go_enter Try.func60, Try.ntmps60
  go_wp2_with (go_at_call 80; (with_reducible refine K.out.mono ?_); rintro e w' ⟨rfl, hE⟩)
  go_ret
  exact ⟨rfl, hE⟩
end Go.Proofs.Ytdboaogdanahkaa
