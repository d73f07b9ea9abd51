/- The program's payloadBytes and readPayload of layer 7. Conditions: the slice reads as bytes. -/
import Derived.Test.YtdboaogdanahkaaFrmP
namespace Go.Proofs.Ytdboaogdanahkaa
set_option linter.unusedVariables false
set_option linter.unusedSimpArgs false
open Go Go.RowKit
theorem or_32 (a b k : Nat) (hk : k = 0 ∨ k = 8 ∨ k = 16 ∨ k = 24) (ha : a < 2 ^ k) (hb : b < 256) : bits .or .u32 (a : Int) ((b * 2 ^ k : Nat) : Int) = ((a + b * 2 ^ k : Nat) : Int) := by
  have hlt : a + b * 2 ^ k < 4294967296 := by rcases hk with rfl | rfl | rfl | rfl <;> simp at ha ⊢ <;> omega
  show IntKind.u32.wrap ((BitVec.ofInt 32 (a : Int) ||| BitVec.ofInt 32 ((b * 2 ^ k : Nat) : Int)).toNat : Int) = _
  have e : (BitVec.ofInt 32 (a : Int) ||| BitVec.ofInt 32 ((b * 2 ^ k : Nat) : Int)).toNat = a + b * 2 ^ k := by
    rw [BitVec.toNat_or, BitVec.toNat_ofInt, BitVec.toNat_ofInt]
    have e1 : ((a : Int) % ((2 ^ 32 : Nat) : Int)).toNat = a := by omega
    have e2 : (((b * 2 ^ k : Nat) : Int) % ((2 ^ 32 : Nat) : Int)).toNat = b * 2 ^ k := by omega
    rw [e1, e2]
    have := Nat.shiftLeft_add_eq_or_of_lt ha b
    rw [Nat.shiftLeft_eq] at this
    rw [Nat.or_comm, ← this]; omega
  rw [e, wrap_u32 _ hlt]
theorem valLE_take_succ {l : List Nat} {k : Nat} (h : k < l.length) : valLE (l.take (k + 1)) = valLE (l.take k) + l.getD k 0 * 256 ^ k := by
  induction l generalizing k with
  | nil => simp at h
  | cons x l ih =>
    cases k with
    | zero => simp [valLE]
    | succ k =>
      have := ih (k := k) (by simpa using h)
      simp only [List.take_succ_cons, valLE, this]
      simp only [List.getD_cons_succ, Nat.pow_succ, Nat.mul_add]
      have e : 256 * (l.getD k 0 * 256 ^ k) = l.getD k 0 * (256 ^ k * 256) := by rw [← Nat.mul_assoc, Nat.mul_comm 256, Nat.mul_assoc, Nat.mul_comm 256]
      rw [e]; omega
set_option maxRecDepth 100000 in
set_option maxHeartbeats 1600000 in
theorem p_pay (A : Option Addr) (c cap : Nat) (l : List Nat) (W : World) (hb : BytesAt W A l) (hc : l.length = c) (hcap : c ≤ cap) (hcap2 : c ≤ 4611686018427387904) (r e : Nat) (hr : frH l = (r, e)) :
    Calls Try.prog 62 #[.slice A c cap] W (Ret (.tuple #[.int .i64 (r : Int), .int .i64 (e : Int)]) W) := by
  unfold frH at hr
  by_cases h9 : c < 9
  · rw [if_pos (by omega)] at hr
    cases hr
    have d1 : decide ((c : Int) < 9) = true := decide_eq_true (by omega)
    clear hb hc
    go_enter Try.func62, Try.ntmps62
    go_wp2_with fail
    go_ret2
    exact ⟨rfl, Ext.refl _⟩
  · rw [if_neg (by omega)] at hr
    have d1 : decide ((c : Int) < 9) = false := decide_eq_false (by omega)
    have hs := run_upto A c 9 cap (by omega)
    have KC : Hid (∀ v, chk (l.take 9) = v → Calls Try.prog 83 #[.slice A 9 cap] W (Ret (.bool v) W)) := fun v hv => p_check A 9 cap (l.take 9) W (hb.take 9) (by rw [List.length_take]; omega) (by omega) v hv
    cases hk : chk (l.take 9) with
    | false =>
      rw [hk, if_pos rfl] at hr
      cases hr
      have KC := hide (KC.out _ hk)
      clear hb hc hk
      go_enter Try.func62, Try.ntmps62
      go_wp2_with (go_at_call 83; (with_reducible refine (KC.out).mono ?_); rintro e w3 ⟨rfl, hE⟩)
      go_ret2
      exact ⟨rfl, hE⟩
    | true =>
      rw [hk, if_neg (by simp)] at hr
      have KC := hide (KC.out _ hk)
      obtain ⟨b, off, rfl, hbw, hcl⟩ := hb.2.2 (by omega)
      have hl9 : 4 ≤ (l.drop 1).length := by rw [List.length_drop]; omega
      have D : Hid (∀ k, k < 4 → W.cell? ⟨b, off + (1 + k), none⟩ = some (.int .u8 (((l.drop 1).getD k 0 : Nat) : Int))) := fun k hk => by
        rw [hcl (1 + k) (by omega)]
        simp [List.getD_eq_getElem?_getD, Nat.add_comm]
      have hm := hide (hb.1.drop 1)
      generalize l.drop 1 = m at hr hl9 D hm
      have Hr := hide hr
      have Hl := hide hl9
      have Hbw := hide hbw
      clear hb hc hk hcl hr hl9 hbw
      go_enter Try.func62, Try.ntmps62
      go_upto_region 5 with (go_at_call 83; (with_reducible refine (KC.out).mono ?_); rintro e w3 ⟨rfl, hE⟩)
      have D : Hid (∀ k, k < 4 → w3.cell? ⟨b, off + (1 + k), none⟩ = some (.int .u8 ((m.getD k 0 : Nat) : Int))) := fun k hk => (hE.cell (p := ⟨b, off + (1 + k), none⟩) Hbw.out).trans (D.out k hk)
      go_wp2_with fail
      go_loop [4, 13] (fun t i => ∃ k V : Nat, k ≤ 4 ∧ i = .int .i64 k ∧ t = .int .u32 V ∧ Hid (valLE (m.take k) = V)) (fun _ i => 4 - (intOf i).toNat)
      case atStart => exact ⟨0, 0, by omega, rfl, rfl, hide (by simp [valLE])⟩
      case round =>
        obtain ⟨k, V, hk, rfl, rfl, HV⟩ := hrel
        by_cases hlt : k < 4
        · have hy := hm.out.get k
          have d2 := D.out k hlt
          have hst := valLE_take_succ (l := m) (k := k) (by have := Hl.out; omega)
          have hVl : V < 256 ^ k := by
            have := valLE_lt (m.take k) (hm.out.take k)
            rw [List.length_take, Nat.min_eq_left (by have := Hl.out; omega), HV.out] at this
            exact this
          rw [HV.out] at hst
          obtain ⟨y, hyy⟩ : ∃ y, m.getD k 0 = y := ⟨_, rfl⟩
          rw [hyy] at hy d2 hst
          have hst := hide hst
          clear hyy HV
          have hcc : k = 0 ∨ k = 1 ∨ k = 2 ∨ k = 3 := by omega
          rcases hcc with rfl | rfl | rfl | rfl
          · have o : bits .or .u32 (V : Int) ((y : Int)) = ((V + y : Nat) : Int) := by have := or_32 V y 0 (by simp) (by simpa using hVl) hy; simpa using this
            go_wp2_with fail
            go_round
            case rel => exact ⟨1, _, by omega, rfl, rfl, hide (by have := hst.out; simpa using this)⟩
            case measure => simp [intOf]
          · have o : bits .or .u32 (V : Int) ((y : Int) * 256) = ((V + y * 256 : Nat) : Int) := by have := or_32 V y 8 (by simp) (by simpa using hVl) hy; simpa using this
            go_wp2_with fail
            go_round
            case rel => exact ⟨2, _, by omega, rfl, rfl, hide (by have := hst.out; simpa using this)⟩
            case measure => simp [intOf]
          · have o : bits .or .u32 (V : Int) ((y : Int) * 65536) = ((V + y * 65536 : Nat) : Int) := by have := or_32 V y 16 (by simp) (by simpa using hVl) hy; simpa using this
            go_wp2_with fail
            go_round
            case rel => exact ⟨3, _, by omega, rfl, rfl, hide (by have := hst.out; simpa using this)⟩
            case measure => simp [intOf]
          · have o : bits .or .u32 (V : Int) ((y : Int) * 16777216) = ((V + y * 16777216 : Nat) : Int) := by have := or_32 V y 24 (by simp) (by simpa using hVl) hy; simpa using this
            go_wp2_with fail
            go_round
            case rel => exact ⟨4, _, by omega, rfl, rfl, hide (by have := hst.out; simpa using this)⟩
            case measure => simp [intOf]
        · obtain rfl : k = 4 := by omega
          have hr := Hr.out
          rw [HV.out] at hr
          have hVl : V < 4294967296 := by
            have := valLE_lt (m.take 4) (hm.out.take 4)
            rw [List.length_take, Nat.min_eq_left Hl.out, HV.out] at this
            exact this
          by_cases hV : 4194304 < V
          · rw [if_pos hV] at hr
            have d3 : decide ((4194304 : Int) < (V : Int)) = true := decide_eq_true (by omega)
            cases hr
            go_wp2_with fail
            go_ret2
            exact ⟨rfl, hE⟩
          · rw [if_neg hV] at hr
            have d3 : decide ((4194304 : Int) < (V : Int)) = false := decide_eq_false (by omega)
            cases hr
            go_wp2_with fail
            go_ret2
            exact ⟨rfl, hE⟩
theorem run_mk8 (n m : Nat) (hnm : n ≤ m) (hm : m ≤ 281474976710656) (w : World) : (Instr.makeSlice 22 (.int .i64 (n : Int)) (.int .i64 (m : Int))).run Try.prog w = .ok (.slice (some ⟨w.heap.size, 0, none⟩) n m) (w.alloc (.cells (u8s (List.replicate m 0)).toArray 5)) := by
  obtain ⟨i0, hi0, hz0, hz1, hz2⟩ := info_parts info_u8
  have := run_make (P := Try.prog) w 22 5 i0 (.int .u8 0) Try.underlying22 hi0 hz0 .i64 .i64 (n : Int) (m : Int) (by omega) (by omega) (by rw [hz2]; omega) (by omega)
  rw [this, hz1, Int.toNat_natCast, Int.toNat_natCast]
  have e : madeCells (Value.int .u8 0).cells (m * 1) = (u8s (List.replicate m 0)).toArray := by
    rw [← made8 m]
  rw [e]
theorem sz8 : (Try.prog.info? 5).map (·.size) = some 1 := by kernel_rfl
/-- A slice of bytes and an error: what was returned is owned. -/
def OwnE (l : List Nat) (n : Nat) (w : World) (e : Ending) (w' : World) : Prop := ∃ v, e = .returned (.tuple #[v, .int .i64 (n : Int)]) ∧ OwnB w.heap.size w' v l ∧ Ext w w'
set_option maxRecDepth 100000 in
set_option maxHeartbeats 1600000 in
theorem p_rpay (A : Option Addr) (c cap n : Nat) (l : List Nat) (W : World) (hb : BytesAt W A l) (hc : l.length = c) (hcap : c ≤ cap) (hcap2 : c ≤ 4611686018427387904) (hn : n ≤ 4194304) (x : List Nat) (e : Nat) (hr : frB l n = (x, e)) :
    Calls Try.prog 63 #[.slice A c cap, .int .i64 (n : Int)] W (OwnE x e W) := by
  unfold frB at hr
  by_cases h9 : c < n + 4
  · rw [if_pos (by omega)] at hr
    cases hr
    have d1 : decide ((c : Int) < (n : Int) + 4) = true := decide_eq_true (by omega)
    clear hb hc
    go_enter Try.func63, Try.ntmps63
    go_wp2_with fail
    go_ret2
    exact ⟨_, rfl, OwnB.nil_ _ _, Ext.refl _⟩
  · rw [if_neg (by omega)] at hr
    have d1 : decide ((c : Int) < (n : Int) + 4) = false := decide_eq_false (by omega)
    have hs := run_upto A c (n + 4) cap (by omega)
    have ei : ((n + 4 : Nat) : Int) = (n : Int) + 4 := by omega
    rw [ei] at hs
    clear ei
    have KC : Hid (∀ v, chk (l.take (n + 4)) = v → Calls Try.prog 83 #[.slice A (n + 4) cap] W (Ret (.bool v) W)) := fun v hv => p_check A (n + 4) cap (l.take (n + 4)) W (hb.take _) (by rw [List.length_take]; omega) (by omega) v hv
    cases hk : chk (l.take (n + 4)) with
    | false =>
      rw [hk, if_pos rfl] at hr
      cases hr
      have KC := hide (KC.out _ hk)
      clear hb hc hk
      go_enter Try.func63, Try.ntmps63
      go_wp2_with (go_at_call 83; (with_reducible refine (KC.out).mono ?_); rintro e w3 ⟨rfl, hE⟩)
      go_ret2
      exact ⟨_, rfl, OwnB.nil_ _ _, hE⟩
    | true =>
      rw [hk, if_neg (by simp)] at hr
      have KC := hide (KC.out _ hk)
      obtain ⟨rfl, rfl⟩ := Prod.mk.inj hr
      have HB := hide hb
      have HC := hide hc
      have h9 : n + 4 ≤ c := by omega
      have hm := run_mk8 n n (Nat.le_refl _) (by omega)
      clear hb hc hk hr
      go_enter Try.func63, Try.ntmps63
      go_upto_region 5 with (go_at_call 83; (with_reducible refine (KC.out).mono ?_); rintro e w3 ⟨rfl, hE⟩)
      have H3 := HB.out.ext hE
      have E1 := ext_alloc w3 (.cells (u8s (List.replicate n 0)).toArray 5)
      have H4 := H3.ext E1
      have hmin : (u8s (l.take n)).length = Nat.min c n := by rw [u8s_len, List.length_take, HC.out]; exact Nat.min_comm _ _
      have hpos : 0 < (u8s (l.take n)).length → (some (⟨w3.heap.size, 0, none⟩ : Addr)) = some ⟨w3.heap.size, 0, none⟩ ∧ ∃ ad, A = some ad ∧ ∀ j v, (u8s (l.take n))[j]? = some v → (w3.alloc (.cells (u8s (List.replicate n 0)).toArray 5)).cell? (ad.add j) = some v := fun hp => by
        rw [u8s_len] at hp
        obtain ⟨b, off, rfl, _, _⟩ := (H4.take n).2.2 hp
        exact ⟨rfl, _, rfl, cells_of_bytes (H4.take n)⟩
      have hfit : 0 + (u8s (l.take n)).length ≤ (u8s (List.replicate n 0)).length := by rw [u8s_len, u8s_len, List.length_replicate, List.length_take]; omega
      have E1 := hide E1
      have hnew := heap_alloc_new w3 (.cells (u8s (List.replicate n 0)).toArray 5)
      have hnew := hide hnew
      obtain ⟨cs, hcs⟩ : ∃ cs, u8s (l.take n) = cs := ⟨_, rfl⟩
      have hone : ∀ v ∈ cs, v.oneCell' = true := by rw [← hcs]; exact u8s_one _
      rw [hcs] at hmin hpos hfit
      have Hcs := hide hcs
      have hI := hide (H3.1.take n)
      clear H3 H4 hcs
      go_wp2_with (refine wpList_copy_splice rfl (.tmp 20) (.tmp 21) 22 22 rfl 5 Try.underlying22 sz8 (some ⟨w3.heap.size, 0, none⟩) A n n c cap rfl rfl w3.heap.size 0 (u8s (List.replicate n 0)) 5 hnew.out cs hmin hpos hfit hone w3.heap.size w3 E1.out (Nat.le_refl _) ?_; intro w4 hrow hE4)
      go_ret2
      refine ⟨_, rfl, own_of (m := []) hE.size (cap := n) ?_ (by rw [List.length_take, HC.out]; omega) (by simp) (by omega) hI.out, Ext.trans hE hE4⟩
      rw [List.append_nil, hrow.out, ← Hcs.out]
      congr 2
      unfold splice
      rw [u8s_len, List.length_take, HC.out, List.drop_of_length_le (by rw [u8s_len, List.length_replicate]; omega)]
      simp
end Go.Proofs.Ytdboaogdanahkaa
