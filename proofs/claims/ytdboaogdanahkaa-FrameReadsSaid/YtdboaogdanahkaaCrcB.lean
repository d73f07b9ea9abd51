/- CRC-32C: the tables. No condition. -/
import Derived.Test.YtdboaogdanahkaaCrcA
import Derived.Test.YtdboaogdanahkaaByA
namespace Go.Proofs.Ytdboaogdanahkaa
set_option linter.unusedVariables false
set_option linter.unusedSimpArgs false
open Go Go.RowKit
def elN (i : Nat) : BitVec 32 := elB (BitVec.ofNat 32 i)
def tcells (k : Nat) : Array Value := ((List.range 256).map fun i => if i < k then Value.int .u32 ((elN i).toNat : Int) else Value.int .u32 0).toArray
theorem tcells_size (k : Nat) : (tcells k).size = 256 := by simp [tcells]
theorem tcells_get (k i : Nat) (h : i < 256) : (tcells k)[i]? = some (if i < k then Value.int .u32 ((elN i).toNat : Int) else Value.int .u32 0) := by
  simp [tcells, h]
theorem tcells_set (k : Nat) (h : k < 256) : (tcells k).setIfInBounds k (Value.int .u32 ((elN k).toNat : Int)) = tcells (k + 1) := by
  apply Array.ext_getElem?
  intro i
  rw [Array.getElem?_setIfInBounds]
  by_cases hi : i < 256
  · rw [tcells_get _ _ hi, tcells_get _ _ hi]
    by_cases he : k = i
    · subst he; simp [tcells_size, h]
    · rw [if_neg he]
      by_cases hk : i < k
      · rw [if_pos hk, if_pos (by omega)]
      · rw [if_neg hk, if_neg (by omega)]
  · have a : (tcells k)[i]? = none := Array.getElem?_eq_none (by rw [tcells_size]; omega)
    have b : (tcells (k + 1))[i]? = none := Array.getElem?_eq_none (by rw [tcells_size]; omega)
    rw [a, b, if_neg (by omega)]
theorem tcells_one (k : Nat) : (tcells k).all (·.oneCell') = true := by
  rw [Array.all_eq_true_iff_forall_mem]
  intro x hx
  simp only [tcells, List.mem_toArray, List.mem_map] at hx
  obtain ⟨i, _, rfl⟩ := hx
  split <;> rfl
theorem zero256 : Try.zeroCells121 = tcells 0 := by kernel_rfl
theorem idxT (k : IntKind) (g i : Nat) (h : i < 256) (w : World) : (Instr.indexAt 121 (.pointer (some ⟨g, 0, none⟩)) (.int k (i : Int))).run Try.prog w = .ok (.pointer (some ⟨g, i, none⟩)) w := by
  have hz := Try.sizeOf52
  have he : Try.prog.elem 121 = 52 := by kernel_rfl
  have hl : Try.prog.arrayLen 121 = 256 := by kernel_rfl
  have hr := run_indexAt_array (P := Try.prog) (w := w) 121 ⟨g, 0, none⟩ k (i : Int) (by kernel_rfl)
  rw [hr, hl, if_pos ⟨by omega, by omega⟩, he, hz]
  simp [Result.andThen, Addr.add]
  try (intro hh; omega)
theorem info256 : (Try.prog.info? 121).map (·.size) = some 256 := by kernel_rfl
theorem loadT (g k : Nat) (w : World) (h : Blk w g 121 (tcells k)) : (Instr.loadAt 121 (.pointer (some ⟨g, 0, none⟩))).run Try.prog w = .ok (.agg (tcells k)) w := by
  unfold Instr.loadAt
  simp only [Instr.sureAddr, Sem.run_bind, Sem.run_pure, Result.andThen_ok]
  exact run_loadVar_row w g _ _ _ _ _ h Try.underlying121 rfl (by rw [info256, tcells_size])
theorem storeT (g k j : Nat) (w : World) (h : Blk w g 121 (tcells k)) : (Instr.storeAt 121 (.pointer (some ⟨g, 0, none⟩)) (.agg (tcells j))).run Try.prog w = .ok () (w.setRow g (tcells j)) := by
  unfold Instr.storeAt
  simp only [Instr.sureAddr, Sem.run_bind, Sem.run_pure, Result.andThen_ok]
  exact run_storeVar_row w g _ _ _ _ h (by rw [info256, tcells_size]) (by rw [tcells_size, tcells_size]) (tcells_one j)
def TabRet (w : World) (e : Ending) (w' : World) : Prop := e = .returned (.agg (tcells 256)) ∧ Ext w w'
theorem ext_setRow {W w : World} {g : Nat} (h : Below W.heap.size W w) (hg : W.heap.size ≤ g) (cs : Array Value) : Below W.heap.size W (w.setRow g cs) := by
  refine ⟨h.os, h.tape, h.output, ?_, fun k hk => ?_⟩
  · show W.heap.size ≤ (w.heap.modify g _).size
    rw [Array.size_modify]; exact h.size
  · show (w.heap.modify g _)[k]? = _
    rw [Array.getElem?_modify, if_neg (by omega)]; exact h.block k hk
theorem two_tabs (w : World) : Blk ((w.alloc (.cells (tcells 0) 121)).alloc (.cells (tcells 0) 121)) w.heap.size 121 (tcells 0) ∧ Blk ((w.alloc (.cells (tcells 0) 121)).alloc (.cells (tcells 0) 121)) (w.heap.size + 1) 121 (tcells 0) := by
  refine ⟨(Blk.new w _ _).alloc _, ?_⟩
  have := Blk.new (w.alloc (.cells (tcells 0) 121)) 121 (tcells 0)
  simpa using this
set_option maxRecDepth 100000 in
set_option maxHeartbeats 800000 in
theorem p_table (W : World) : Calls Try.prog 102 #[] W (TabRet W) := by
  go_enter Try.func102, Try.ntmps102
  go_upto_region 3 with fail
  rw [zero256]
  have H := two_tabs W
  have E := (ext_alloc W (.cells (tcells 0) 121)).trans (ext_alloc _ (.cells (tcells 0) 121))
  obtain ⟨w2, hw2⟩ : ∃ w2, w2 = (W.alloc (.cells (tcells 0) 121)).alloc (.cells (tcells 0) 121) := ⟨_, rfl⟩
  rw [← hw2] at H E ⊢
  obtain ⟨g, hg⟩ : ∃ g, W.heap.size = g := ⟨_, rfl⟩
  rw [hg] at H ⊢
  have Hg := hide hg
  have h0 := hide H.1
  have h1 := hide H.2
  have hE := hide E
  clear hw2 hg H E
  go_loopw [3] (fun i wr => ∃ k : Nat, k ≤ 256 ∧ i = .int .i64 k ∧ Hid (Blk wr g 121 (tcells 0)) ∧ Hid (Blk wr (g + 1) 121 (tcells k)) ∧ Hid (Ext W wr)) (fun i _ => 256 - (intOf i).toNat)
  case atStart => exact ⟨0, by omega, rfl, h0, h1, hE⟩
  case round =>
    clear h0 h1 hE
    obtain ⟨k, hk, rfl, h0, h1, hE⟩ := hrel
    by_cases hlt : k < 256
    · have ke : Hid (∀ w, Calls Try.prog 104 #[.int .u32 (k : Int)] w (Ret32 (elN k) w)) := fun w => by
        have := p_element (BitVec.ofNat 32 k) w
        have e : (BitVec.ofNat 32 k).toNat = k := by rw [BitVec.toNat_ofNat]; omega
        unfold B32 at this
        rw [e] at this
        exact this
      have hi := idxT .i64 (g + 1) k hlt
      have hc : wr.cell? ⟨g + 1, k, none⟩ = some (.int .u32 0) := by rw [h1.out.cell, tcells_get _ _ hlt, if_neg (by omega)]
      have hf := h1.out.frozen k
      go_wp2_with (go_at_call 104; (with_reducible refine (ke.out _).mono ?_); rintro e w' ⟨rfl, rfl⟩; unfold B32)
      go_roundw
      case rel => exact ⟨k + 1, by omega, by go_num, hide (h0.out.far (by simp) _), hide (by rw [← tcells_set k hlt]; exact h1.out.set_ k _), hide (hE.out.setCell (by have := Hg.out; (try show W.heap.size ≤ g + 1); omega) _)⟩
      case measure => simp [intOf]; omega
    · obtain rfl : k = 256 := by omega
      have hne : g ≠ g + 1 := by omega
      go_wp2_with (first
        | (refine wpList_load_row rfl 121 (.tmp 1) rfl (g + 1) rfl 121 (tcells 256) (0, 0) _ h1.out Try.underlying121 rfl (by rw [info256, tcells_size]) ?_)
        | (refine wpList_store_row rfl 121 (.tmp 0) (.tmp 12) rfl g (tcells 256) rfl rfl 121 (tcells 0) h0.out (by rw [info256, tcells_size]) (by rw [tcells_size, tcells_size]) (tcells_one 256) ?_))
      have hr := (h0.out.setRow (tcells 256))
      exact bodyPost_ret (results_cell_row (p := 0) (ty := 121) rfl _ _ g 121 (tcells 256) (0, 0) _ rfl hr Try.underlying121 rfl (by rw [info256, tcells_size])) rfl ⟨rfl, ext_setRow hE.out (by have := Hg.out; omega) _⟩
end Go.Proofs.Ytdboaogdanahkaa
