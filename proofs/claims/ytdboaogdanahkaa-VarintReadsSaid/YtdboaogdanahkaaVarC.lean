/- Appending groups that a function yields. Conditions: the slice reads as at most 2^47 - 64 bytes; the function keeps a state in one block. -/
import Derived.Test.YtdboaogdanahkaaVarB
import Derived.Test.YtdboaogdanahkaaByB
import Derived.Test.YtdboaogdanahkaaSpoA
import Derived.Test.YtdboaogdanahkaaBase
namespace Go.Proofs.Ytdboaogdanahkaa
set_option linter.unusedVariables false
set_option linter.unusedSimpArgs false
open Go Go.RowKit
/-- What is returned is owned, made since W; of what was there only block g may have changed. -/
def OwnUpd (g : Nat) (l : List Nat) (W : World) (e : Ending) (w' : World) : Prop := ∃ v, e = .returned v ∧ OwnB W.heap.size w' v l ∧ Upd g W w'
/-- A function that yields group after group; its state lies in block g. -/
structure Yields (f : FuncId) (cp : Array Value) (g : Nat) (St : Nat → World → Prop) (q : Nat → Nat) : Prop where
  call : ∀ j w, St j w → Calls Try.prog f cp w (fun e w' => e = .returned (.int .u8 (q j : Int)) ∧ St (j + 1) w' ∧ Upd g w w')
  keep : ∀ j w w', St j w → w.heap.size ≤ w'.heap.size → w'.heap[g]? = w.heap[g]? → St j w'
  enter : ∀ w, (callFunc f cp).run Try.prog w = .ok (.enter f cp) w
  lt : ∀ j, q j < 128
  inn : ∀ j w, St j w → g < w.heap.size
def qs (q : Nat → Nat) : Nat → List Nat
  | 0 => []
  | k + 1 => qs q k ++ [q k + 128]
theorem qs_len (q : Nat → Nat) (k : Nat) : (qs q k).length = k := by
  induction k with
  | zero => rfl
  | succ k ih => simp [qs, ih]
theorem run_make8 (n m : Nat) (hnm : n ≤ m) (hm : m ≤ 281474976710656) (w : World) : (Instr.makeSlice 22 (.int .i64 (n : Int)) (.int .i64 (m : Int))).run Try.prog w = .ok (.slice (some ⟨w.heap.size, 0, none⟩) n m) (w.alloc (.cells (u8s (List.replicate m 0)).toArray 5)) := by
  obtain ⟨i0, hi0, hz0, hz1, hz2⟩ := info_parts info_u8
  have := run_make (P := Try.prog) w 22 5 i0 (.int .u8 0) Try.underlying22 hi0 hz0 .i64 .i64 (n : Int) (m : Int) (by omega) (by omega) (by rw [hz2]; omega) (by omega)
  rw [this, hz1, Int.toNat_natCast, Int.toNat_natCast]
  have e : madeCells (Value.int .u8 0).cells (m * 1) = (u8s (List.replicate m 0)).toArray := by
    rw [← made8 m]
  rw [e]
theorem grown_at {W w w' : World} {row : Option Nat} {g : Nat} (h : w.grownBy w' row) (hg : g < W.heap.size) (hs : W.heap.size ≤ w.heap.size) (hr : ∀ k, row = some k → W.heap.size ≤ k) : w'.heap[g]? = w.heap[g]? :=
  h.block g (by omega) (fun e => by have := hr g e.symm; omega)
set_option maxRecDepth 100000 in
set_option maxHeartbeats 1600000 in
theorem p_ag (f : Nat) (g : Nat) (St : Nat → World → Prop) (q : Nat → Nat) (A : Option Addr) (c cap k : Nat) (l : List Nat) (W : World) (hY : Yields f #[.pointer (some ⟨g, 0, none⟩)] g St q) (hS : St 0 W) (hb : BytesAt W A l) (hc : l.length = c) (hlen : c ≤ 140737488355264) (hk : k ≤ 36) :
    Calls Try.prog 48 #[.slice A c cap, .int .i64 ((k : Int) + 1), .func (.func f) #[] #[.pointer (some ⟨g, 0, none⟩)]] W (OwnUpd g (l ++ (qs q k ++ [q k])) W) := by
  have hgW := hY.inn 0 W hS
  have hm := fun w => run_make8 c (c + (k + 1)) (by omega) (by omega) w
  have ec : ((c + (k + 1) : Nat) : Int) = (c : Int) + ((k : Int) + 1) := by omega
  rw [ec] at hm
  have E0 := ext_alloc W (.cells (u8s (List.replicate (c + (k + 1)) 0)).toArray 5)
  have hb1 := hb.ext E0
  have hS1 : St 0 (W.alloc (.cells (u8s (List.replicate (c + (k + 1)) 0)).toArray 5)) := hY.keep 0 _ _ hS E0.size (E0.block g hgW)
  have hpos : 0 < (u8s l).length → (some (⟨W.heap.size, 0, none⟩ : Addr)) = some ⟨W.heap.size, 0, none⟩ ∧ ∃ ad, A = some ad ∧ ∀ j v, (u8s l)[j]? = some v → (W.alloc (.cells (u8s (List.replicate (c + (k + 1)) 0)).toArray 5)).cell? (ad.add j) = some v := fun hp => by
    rw [u8s_len] at hp
    obtain ⟨b, off, rfl, _, _⟩ := hb1.2.2 hp
    exact ⟨rfl, _, rfl, cells_of_bytes hb1⟩
  have hsz8 : (Try.prog.info? 5).map (·.size) = some 1 := by kernel_rfl
  have hfit : 0 + (u8s l).length ≤ (u8s (List.replicate (c + (k + 1)) 0)).length := by rw [u8s_len, u8s_len, List.length_replicate]; omega
  have hmin : (u8s l).length = Nat.min c c := by rw [u8s_len, hc]; exact (Nat.min_self c).symm
  have HE0 := hide E0
  have HC := hide hc
  have HI := hide hb.1
  have HY := hide hY
  have hen := hY.enter
  have HS := hide hS
  clear ec hb hS hb1 hS1 hY hc E0
  go_enter Try.func48, Try.ntmps48
  go_wp2_with (refine wpList_copy_splice rfl (.tmp 15) (.tmp 16) 22 22 rfl 5 Try.underlying22 hsz8 (some ⟨W.heap.size, 0, none⟩) A c (c + (k + 1)) c cap rfl rfl W.heap.size 0 (u8s (List.replicate (c + (k + 1)) 0)) 5 (heap_alloc_new W _) (u8s l) hmin hpos hfit (u8s_one l) W.heap.size W HE0.out (Nat.le_refl _) ?_; intro w1 hrow hE1)
  have hO : OwnB W.heap.size w1 (.slice (some ⟨W.heap.size, 0, none⟩) c (c + (k + 1))) l := by
    refine own_of (m := List.replicate (k + 1) 0) (Nat.le_refl _) ?_ HC.out (by simp) (by omega) HI.out
    rw [hrow.out]
    congr 2
    unfold splice
    rw [u8s_app, u8s_len, HC.out]
    simp [u8s]
  have hS1 : Hid (St 0 w1) := HY.out.keep 0 W w1 HS.out hE1.size (hE1.block g hgW)
  have hU1 : Hid (Upd g W w1) := Ext.upd hE1 g
  have hO := hide hO
  clear hrow hE1 hpos hfit hmin hsz8 hm HE0
  go_loopw [7, 20] (fun u i wr => ∃ j : Nat, j ≤ k ∧ i = .int .i64 j ∧ Hid (OwnB W.heap.size wr u (l ++ qs q j)) ∧ Hid (St j wr) ∧ Hid (Upd g W wr)) (fun _ i _ => k - (intOf i).toNat)
  case atStart => exact ⟨0, by omega, rfl, hide (by rw [qs, List.append_nil]; exact hO.out), hS1, hU1⟩
  case round =>
    clear hO hS1 hU1
    obtain ⟨j, hj, rfl, HO, HSt, HU⟩ := hrel
    have hqj := HY.out.lt j
    by_cases hlt : j < k
    · go_wp2_with fail
      (with_reducible refine (HY.out.call j _ HSt.out).mono ?_)
      rintro e w2 ⟨rfl, hS2, hU2⟩
      have hO2 := hide ((HO.out.upd hU2 hgW).alloc (.cells #[Value.int .u8 ((q j : Int) + 128)] 5))
      have hUU := hide ((HU.out.trans hU2).trans (Ext.upd (ext_alloc w2 (.cells #[Value.int .u8 ((q j : Int) + 128)] 5)) g))
      have hgw2 := HY.out.inn _ _ hS2
      have hSS := hide (HY.out.keep (j + 1) _ (w2.alloc (.cells #[Value.int .u8 ((q j : Int) + 128)] 5)) hS2 (by simp) ((ext_alloc w2 _).block g hgw2))
      have hone := hide (one_at w2 (q j + 128) (by omega) (Value.int .u8 ((q j : Int) + 128)) rfl)
      have hsz : W.heap.size ≤ (w2.alloc (.cells #[Value.int .u8 ((q j : Int) + 128)] 5)).heap.size := hUU.out.2.2.2.1
      have hle : (l ++ qs q j).length + [q j + 128].length ≤ 140737488355328 := by rw [List.length_append, qs_len]; have := HC.out; simp; omega
      clear HO HSt HU hS2 hU2
      go_wp2_with (at_builtin; refine wl_append8 rfl (.tmp 22) (.tmp 26) rfl W.heap.size _ _ _ rfl hO2.out _ 1 1 rfl hone.out rfl hle hsz ?_; intro v3 w3 hO3 hG3 hA3)
      have hr := fun k hk => (hO2.out.1.lt k hk).1
      have hO3 := hide hO3
      have hU3 := hide (upd_grown hUU.out hG3 hr)
      have hS3 := hide (HY.out.keep (j + 1) _ w3 hSS.out hG3.size (grown_at hG3 hgW hsz hr))
      clear hG3 hA3 hr hUU hSS hO2 hone hsz hle
      go_wp2_with fail
      go_roundw
      case rel => exact ⟨j + 1, by omega, by go_num, hide (by rw [qs, ← List.append_assoc]; exact hO3.out), hS3, hU3⟩
      case measure => simp [intOf]; omega
    · obtain rfl : j = k := by omega
      go_wp2_with fail
      (with_reducible refine (HY.out.call j _ HSt.out).mono ?_)
      rintro e w2 ⟨rfl, hS2, hU2⟩
      have hO2 := hide ((HO.out.upd hU2 hgW).alloc (.cells #[Value.int .u8 (q j : Int)] 5))
      have hUU := hide ((HU.out.trans hU2).trans (Ext.upd (ext_alloc w2 (.cells #[Value.int .u8 (q j : Int)] 5)) g))
      have hone := hide (one_at w2 (q j) (by omega) (Value.int .u8 (q j : Int)) rfl)
      have hsz : W.heap.size ≤ (w2.alloc (.cells #[Value.int .u8 (q j : Int)] 5)).heap.size := hUU.out.2.2.2.1
      have hle : (l ++ qs q j).length + [q j].length ≤ 140737488355328 := by rw [List.length_append, qs_len]; have := HC.out; simp; omega
      clear HO HSt HU hS2 hU2
      go_wp2_with (at_builtin; refine wl_append8 rfl (.tmp 29) (.tmp 32) rfl W.heap.size _ _ _ rfl hO2.out _ 1 1 rfl hone.out rfl hle hsz ?_; intro v3 w3 hO3 hG3 hA3)
      have hr := fun k hk => (hO2.out.1.lt k hk).1
      have hU3 := hide (upd_grown hUU.out hG3 hr)
      have hO3 := hide hO3
      clear hG3 hA3 hr
      go_wp2_with fail
      go_ret
      exact ⟨_, rfl, by rw [← List.append_assoc]; exact hO3.out, hU3.out⟩
end Go.Proofs.Ytdboaogdanahkaa
