/- The program's shifts of codes. No condition. -/
import Derived.Test.YtdboaogdanahkaaCod
import Derived.Test.YtdboaogdanahkaaByA
import Derived.Test.YtdboaogdanahkaaBase
namespace Go.Proofs.Ytdboaogdanahkaa
set_option linter.unusedVariables false
set_option linter.unusedSimpArgs false
open Go Go.RowKit
theorem or64 (k h lo : Nat) (hlo : lo < 2 ^ k) (ht : 2 ^ k * h + lo < 18446744073709551616) : bits .or .u64 ((2 ^ k * h : Nat) : Int) (lo : Int) = ((2 ^ k * h + lo : Nat) : Int) ∧ bits .or .u64 (lo : Int) ((2 ^ k * h : Nat) : Int) = ((2 ^ k * h + lo : Nat) : Int) := by
  have e1 : (BitVec.ofInt 64 ((2 ^ k * h : Nat) : Int)).toNat = 2 ^ k * h := by rw [BitVec.toNat_ofInt]; omega
  have e2 : (BitVec.ofInt 64 (lo : Int)).toNat = lo := by rw [BitVec.toNat_ofInt]; omega
  have e3 : ((BitVec.ofInt 64 ((2 ^ k * h : Nat) : Int)) ||| (BitVec.ofInt 64 (lo : Int))).toNat = 2 ^ k * h + lo := by
    rw [BitVec.toNat_or, e1, e2, ← Nat.two_pow_add_eq_or_of_lt hlo]
  constructor
  · show IntKind.u64.wrap (((BitVec.ofInt 64 ((2 ^ k * h : Nat) : Int)) ||| (BitVec.ofInt 64 (lo : Int))).toNat : Int) = _
    rw [e3, wrap_u64']; omega
  · show IntKind.u64.wrap (((BitVec.ofInt 64 (lo : Int)) ||| (BitVec.ofInt 64 ((2 ^ k * h : Nat) : Int))).toNat : Int) = _
    rw [BitVec.or_comm, e3, wrap_u64']; omega
theorem below_row' {W w : World} {g : Nat} (h : Below W.heap.size W w) (hg : W.heap.size ≤ g) (cs : Array Value) : Below W.heap.size W (w.setRow g cs) := by
  refine ⟨h.os, h.tape, h.output, ?_, fun k hk => ?_⟩
  · show W.heap.size ≤ (w.heap.modify g _).size
    rw [Array.size_modify]; exact h.size
  · show (w.heap.modify g _)[k]? = _
    rw [Array.getElem?_modify, if_neg (by omega)]; exact h.block k hk
def ag5 (C : Nat) : Array Value := #[.int .u64 (w5 C 0 : Int), .int .u64 (w5 C 1 : Int), .int .u64 (w5 C 2 : Int), .int .u64 (w5 C 3 : Int), .int .u64 (w5 C 4 : Int)]
def dn5 (C D k j : Nat) : Int := if 5 ≤ k + j then (w5 D j : Int) else (w5 C j : Int)
def dc5 (C D k : Nat) : Array Value := #[.int .u64 (dn5 C D k 0), .int .u64 (dn5 C D k 1), .int .u64 (dn5 C D k 2), .int .u64 (dn5 C D k 3), .int .u64 (dn5 C D k 4)]
theorem info5 : (Try.prog.info? 82).map (·.size) = some 5 := by kernel_rfl
theorem ag5_size (C : Nat) : (ag5 C).size = 5 := rfl
theorem ag5_one (C : Nat) : (ag5 C).all (·.oneCell') = true := by
  rw [Array.all_eq_true_iff_forall_mem]
  intro x hx
  simp only [ag5, List.mem_toArray, List.mem_cons, List.not_mem_nil, or_false] at hx
  rcases hx with rfl | rfl | rfl | rfl | rfl <;> rfl
theorem dc5_full (C D : Nat) : dc5 C D 5 = ag5 D := by simp [dc5, dn5, ag5]
theorem down7_or (C i x y : Nat) (hx : w5 C i = x) (hy : y = w5 C (i + 1) * 144115188075855872 % 18446744073709551616) : bits .or .u64 ((x : Int) / 128) (y : Int) = (w5 (C / 128) i : Int) := by
  have hxl := w5_lt C i
  rw [down7, hx]
  rw [hx] at hxl
  have e1 : (x : Int) / 128 = ((x / 128 : Nat) : Int) := by omega
  have e2 : y = 2 ^ 57 * (w5 C (i + 1) % 128) := by omega
  have := (or64 57 (w5 C (i + 1) % 128) (x / 128) (by omega) (by omega)).2
  rw [← e2] at this
  rw [e1, this]; omega
theorem down1_or (C i x y : Nat) (hx : w5 C i = x) (hy : y = w5 C (i + 1) * 9223372036854775808 % 18446744073709551616) : bits .or .u64 ((x : Int) / 2) (y : Int) = (w5 (C / 2) i : Int) := by
  have hxl := w5_lt C i
  rw [down1, hx]
  rw [hx] at hxl
  have e1 : (x : Int) / 2 = ((x / 2 : Nat) : Int) := by omega
  have e2 : y = 2 ^ 63 * (w5 C (i + 1) % 2) := by omega
  have := (or64 63 (w5 C (i + 1) % 2) (x / 2) (by omega) (by omega)).2
  rw [← e2] at this
  rw [e1, this]; omega
def uc5 (C D k : Nat) : Array Value := #[.int .u64 (if 0 < k then (w5 D 0 : Int) else (w5 C 0 : Int)), .int .u64 (if 1 < k then (w5 D 1 : Int) else (w5 C 1 : Int)), .int .u64 (if 2 < k then (w5 D 2 : Int) else (w5 C 2 : Int)), .int .u64 (if 3 < k then (w5 D 3 : Int) else (w5 C 3 : Int)), .int .u64 (if 4 < k then (w5 D 4 : Int) else (w5 C 4 : Int))]
theorem uc5_full (C D : Nat) : uc5 C D 5 = ag5 D := by simp [uc5, ag5]
/-- What a word hands on. -/
def ovU (C q k : Nat) : Nat := match k with | 0 => 0 | k + 1 => w5 C k / q
theorem up7_or (C i x y : Nat) (hx : w5 C i = x) (hy : y = ovU C 144115188075855872 i) : bits .or .u64 (IntKind.u64.wrap ((x : Int) * 128)) (y : Int) = (w5 (C * 128) i : Int) := by
  have hxl := w5_lt C i
  rw [hx] at hxl
  have hyl : y < 2 ^ 7 := by
    rw [hy]
    cases i with
    | zero => show 0 < 2 ^ 7; omega
    | succ i => show w5 C i / 144115188075855872 < 2 ^ 7; have := w5_lt C i; omega
  have hw : w5 (C * 128) i = x * 128 % 18446744073709551616 + y := by
    rw [hy]
    cases i with
    | zero => rw [up7_0, hx]; rfl
    | succ i => rw [up7, hx]; rfl
  have e1 : IntKind.u64.wrap ((x : Int) * 128) = ((2 ^ 7 * (x % 144115188075855872) : Nat) : Int) := by rw [wrap_u64']; omega
  have := (or64 7 (x % 144115188075855872) y hyl (by omega)).1
  rw [e1, this, hw]; omega
theorem up1_or (C i x y : Nat) (hx : w5 C i = x) (hy : y = ovU C 9223372036854775808 i) : bits .or .u64 (IntKind.u64.wrap ((x : Int) * 2)) (y : Int) = (w5 (C * 2) i : Int) := by
  have hxl := w5_lt C i
  rw [hx] at hxl
  have hyl : y < 2 ^ 1 := by
    rw [hy]
    cases i with
    | zero => show 0 < 2 ^ 1; omega
    | succ i => show w5 C i / 9223372036854775808 < 2 ^ 1; have := w5_lt C i; omega
  have hw : w5 (C * 2) i = x * 2 % 18446744073709551616 + y := by
    rw [hy]
    cases i with
    | zero => rw [up1_0, hx]; rfl
    | succ i => rw [up1, hx]; rfl
  have e1 : IntKind.u64.wrap ((x : Int) * 2) = ((2 ^ 1 * (x % 9223372036854775808) : Nat) : Int) := by rw [wrap_u64']; omega
  have := (or64 1 (x % 9223372036854775808) y hyl (by omega)).1
  rw [e1, this, hw]; omega
def z5c : Array Value := #[.int .u64 0, .int .u64 0, .int .u64 0, .int .u64 0, .int .u64 0]
set_option maxRecDepth 100000 in
set_option maxHeartbeats 1600000 in
theorem p_down7 (C : Nat) (W : World) (hC : C < 18446744073709551616 ^ 5) : Calls Try.prog 57 #[.agg (ag5 C), .int .u64 7] W (Ret (.agg (ag5 (C / 128))) W) := by
  unfold ag5
  go_enter Try.func57, Try.ntmps57
  go_upto_region 3 with fail
  have H2 := two_blocks W (.cells (ag5 C) 82) (.cells z5c 82)
  have E := (ext_alloc W (.cells (ag5 C) 82)).trans (ext_alloc _ (.cells z5c 82))
  unfold ag5 z5c at H2 E
  obtain ⟨w2, hw2⟩ : ∃ w2, (W.alloc (.cells #[.int .u64 (w5 C 0 : Int), .int .u64 (w5 C 1 : Int), .int .u64 (w5 C 2 : Int), .int .u64 (w5 C 3 : Int), .int .u64 (w5 C 4 : Int)] 82)).alloc (.cells #[.int .u64 0, .int .u64 0, .int .u64 0, .int .u64 0, .int .u64 0] 82) = w2 := ⟨_, rfl⟩
  rw [hw2] at H2 E ⊢
  obtain ⟨g, hg⟩ : ∃ g, W.heap.size = g := ⟨_, rfl⟩
  rw [hg] at H2 ⊢
  have B1 : Hid (Blk w2 g 82 (dc5 C (C / 128) 0)) := H2.1
  have B2 : Hid (Blk w2 (g + 1) 82 z5c) := H2.2
  have Hg := hide hg
  have E := hide E
  clear hw2 hg H2
  go_loopw [5, 6] (fun o i wr => ∃ (k y : Nat), k ≤ 5 ∧ i = .int .i64 (4 - (k : Int)) ∧ o = .int .u64 (y : Int) ∧ Hid (y = w5 C (5 - k) * 144115188075855872 % 18446744073709551616) ∧ Hid (Blk wr g 82 (dc5 C (C / 128) k)) ∧ Hid (Blk wr (g + 1) 82 z5c) ∧ Hid (Below W.heap.size W wr)) (fun _ i _ => (intOf i + 1).toNat)
  case atStart => exact ⟨0, 0, by omega, rfl, rfl, by show _ = _; rw [w5_top C hC], B1, B2, E⟩
  case round =>
    clear B1 B2 E
    obtain ⟨k, y, hk, rfl, rfl, Y, B1, B2, E⟩ := hrel
    have hcc : k = 0 ∨ k = 1 ∨ k = 2 ∨ k = 3 ∨ k = 4 ∨ k = 5 := by omega
    rcases hcc with rfl | rfl | rfl | rfl | rfl | rfl
    · have hx := w5_lt C 4
      obtain ⟨x, hxx⟩ : ∃ x, w5 C 4 = x := ⟨_, rfl⟩
      rw [hxx] at hx
      have hy : y < 18446744073709551616 := by have := Y.out; omega
      have c1 : wr.cell? ⟨g, 4, none⟩ = some (.int .u64 (x : Int)) := by rw [← hxx]; exact B1.out.cell 4
      have f1 := B1.out.frozen 4
      have hv := hide (down7_or C 4 x y hxx Y.out)
      have hw : Hid (IntKind.u64.wrap ((x : Int) * 144115188075855872) = ((x * 144115188075855872 % 18446744073709551616 : Nat) : Int)) := by
        show _ = _
        rw [wrap_u64']; omega
      have Hx := hide hxx
      clear hxx
      go_wp2_with fail
      go_roundw
      case rel =>
        refine ⟨1, x * 144115188075855872 % 18446744073709551616, by omega, by simp, congrArg (Value.int .u64) hw.out, hide (by rw [← Hx.out]), hide ?_, hide (B2.out.far (by simp) _), hide (E.out.setCell (by have := Hg.out; (try show W.heap.size ≤ g); omega) _)⟩
        rw [hv.out]
        have := B1.out.set_ 4 (.int .u64 (w5 (C / 128) 4 : Int))
        simpa [dc5, dn5] using this
      case measure => simp [intOf]
    · have hx := w5_lt C 3
      obtain ⟨x, hxx⟩ : ∃ x, w5 C 3 = x := ⟨_, rfl⟩
      rw [hxx] at hx
      have hy : y < 18446744073709551616 := by have := Y.out; omega
      have c1 : wr.cell? ⟨g, 3, none⟩ = some (.int .u64 (x : Int)) := by rw [← hxx]; exact B1.out.cell 3
      have f1 := B1.out.frozen 3
      have hv := hide (down7_or C 3 x y hxx Y.out)
      have hw : Hid (IntKind.u64.wrap ((x : Int) * 144115188075855872) = ((x * 144115188075855872 % 18446744073709551616 : Nat) : Int)) := by
        show _ = _
        rw [wrap_u64']; omega
      have Hx := hide hxx
      clear hxx
      go_wp2_with fail
      go_roundw
      case rel =>
        refine ⟨2, x * 144115188075855872 % 18446744073709551616, by omega, by simp, congrArg (Value.int .u64) hw.out, hide (by rw [← Hx.out]), hide ?_, hide (B2.out.far (by simp) _), hide (E.out.setCell (by have := Hg.out; (try show W.heap.size ≤ g); omega) _)⟩
        rw [hv.out]
        have := B1.out.set_ 3 (.int .u64 (w5 (C / 128) 3 : Int))
        simpa [dc5, dn5] using this
      case measure => simp [intOf]
    · have hx := w5_lt C 2
      obtain ⟨x, hxx⟩ : ∃ x, w5 C 2 = x := ⟨_, rfl⟩
      rw [hxx] at hx
      have hy : y < 18446744073709551616 := by have := Y.out; omega
      have c1 : wr.cell? ⟨g, 2, none⟩ = some (.int .u64 (x : Int)) := by rw [← hxx]; exact B1.out.cell 2
      have f1 := B1.out.frozen 2
      have hv := hide (down7_or C 2 x y hxx Y.out)
      have hw : Hid (IntKind.u64.wrap ((x : Int) * 144115188075855872) = ((x * 144115188075855872 % 18446744073709551616 : Nat) : Int)) := by
        show _ = _
        rw [wrap_u64']; omega
      have Hx := hide hxx
      clear hxx
      go_wp2_with fail
      go_roundw
      case rel =>
        refine ⟨3, x * 144115188075855872 % 18446744073709551616, by omega, by simp, congrArg (Value.int .u64) hw.out, hide (by rw [← Hx.out]), hide ?_, hide (B2.out.far (by simp) _), hide (E.out.setCell (by have := Hg.out; (try show W.heap.size ≤ g); omega) _)⟩
        rw [hv.out]
        have := B1.out.set_ 2 (.int .u64 (w5 (C / 128) 2 : Int))
        simpa [dc5, dn5] using this
      case measure => simp [intOf]
    · have hx := w5_lt C 1
      obtain ⟨x, hxx⟩ : ∃ x, w5 C 1 = x := ⟨_, rfl⟩
      rw [hxx] at hx
      have hy : y < 18446744073709551616 := by have := Y.out; omega
      have c1 : wr.cell? ⟨g, 1, none⟩ = some (.int .u64 (x : Int)) := by rw [← hxx]; exact B1.out.cell 1
      have f1 := B1.out.frozen 1
      have hv := hide (down7_or C 1 x y hxx Y.out)
      have hw : Hid (IntKind.u64.wrap ((x : Int) * 144115188075855872) = ((x * 144115188075855872 % 18446744073709551616 : Nat) : Int)) := by
        show _ = _
        rw [wrap_u64']; omega
      have Hx := hide hxx
      clear hxx
      go_wp2_with fail
      go_roundw
      case rel =>
        refine ⟨4, x * 144115188075855872 % 18446744073709551616, by omega, by simp, congrArg (Value.int .u64) hw.out, hide (by rw [← Hx.out]), hide ?_, hide (B2.out.far (by simp) _), hide (E.out.setCell (by have := Hg.out; (try show W.heap.size ≤ g); omega) _)⟩
        rw [hv.out]
        have := B1.out.set_ 1 (.int .u64 (w5 (C / 128) 1 : Int))
        simpa [dc5, dn5] using this
      case measure => simp [intOf]
    · have hx := w5_lt C 0
      obtain ⟨x, hxx⟩ : ∃ x, w5 C 0 = x := ⟨_, rfl⟩
      rw [hxx] at hx
      have hy : y < 18446744073709551616 := by have := Y.out; omega
      have c1 : wr.cell? ⟨g, 0, none⟩ = some (.int .u64 (x : Int)) := by rw [← hxx]; exact B1.out.cell 0
      have f1 := B1.out.frozen 0
      have hv := hide (down7_or C 0 x y hxx Y.out)
      have hw : Hid (IntKind.u64.wrap ((x : Int) * 144115188075855872) = ((x * 144115188075855872 % 18446744073709551616 : Nat) : Int)) := by
        show _ = _
        rw [wrap_u64']; omega
      have Hx := hide hxx
      clear hxx
      go_wp2_with fail
      go_roundw
      case rel =>
        refine ⟨5, x * 144115188075855872 % 18446744073709551616, by omega, by simp, congrArg (Value.int .u64) hw.out, hide (by rw [← Hx.out]), hide ?_, hide (B2.out.far (by simp) _), hide (E.out.setCell (by have := Hg.out; (try show W.heap.size ≤ g); omega) _)⟩
        rw [hv.out]
        have := B1.out.set_ 0 (.int .u64 (w5 (C / 128) 0 : Int))
        simpa [dc5, dn5] using this
      case measure => simp [intOf]
    · have n1 : ¬ (0 : Int) ≤ 4 - ((5 : Nat) : Int) := by omega
      have B1 : Hid (Blk wr g 82 (ag5 (C / 128))) := by have := B1.out; rw [dc5_full] at this; exact this
      go_wp2_with (first
        | (refine wpList_load_row rfl 82 (.tmp 2) rfl g rfl 82 (ag5 (C / 128)) (0, 0) _ B1.out Try.underlying82 rfl (by rw [info5, ag5_size]) ?_)
        | (refine wpList_store_row rfl 82 (.tmp 4) (.tmp 26) rfl (g + 1) (ag5 (C / 128)) rfl rfl 82 z5c B2.out (by rw [info5, ag5_size]) (by rw [ag5_size]; rfl) (ag5_one _) ?_))
      have hr := B2.out.setRow (ag5 (C / 128))
      exact bodyPost_ret (results_cell_row (p := 4) (ty := 82) rfl _ _ (g + 1) 82 (ag5 (C / 128)) (0, 0) _ rfl hr Try.underlying82 rfl (by rw [info5, ag5_size])) rfl ⟨rfl, below_row' E.out (by have := Hg.out; omega) _⟩
set_option maxRecDepth 100000 in
set_option maxHeartbeats 1600000 in
theorem p_down1 (C : Nat) (W : World) (hC : C < 18446744073709551616 ^ 5) : Calls Try.prog 57 #[.agg (ag5 C), .int .u64 1] W (Ret (.agg (ag5 (C / 2))) W) := by
  unfold ag5
  go_enter Try.func57, Try.ntmps57
  go_upto_region 3 with fail
  have H2 := two_blocks W (.cells (ag5 C) 82) (.cells z5c 82)
  have E := (ext_alloc W (.cells (ag5 C) 82)).trans (ext_alloc _ (.cells z5c 82))
  unfold ag5 z5c at H2 E
  obtain ⟨w2, hw2⟩ : ∃ w2, (W.alloc (.cells #[.int .u64 (w5 C 0 : Int), .int .u64 (w5 C 1 : Int), .int .u64 (w5 C 2 : Int), .int .u64 (w5 C 3 : Int), .int .u64 (w5 C 4 : Int)] 82)).alloc (.cells #[.int .u64 0, .int .u64 0, .int .u64 0, .int .u64 0, .int .u64 0] 82) = w2 := ⟨_, rfl⟩
  rw [hw2] at H2 E ⊢
  obtain ⟨g, hg⟩ : ∃ g, W.heap.size = g := ⟨_, rfl⟩
  rw [hg] at H2 ⊢
  have B1 : Hid (Blk w2 g 82 (dc5 C (C / 2) 0)) := H2.1
  have B2 : Hid (Blk w2 (g + 1) 82 z5c) := H2.2
  have Hg := hide hg
  have E := hide E
  clear hw2 hg H2
  go_loopw [5, 6] (fun o i wr => ∃ (k y : Nat), k ≤ 5 ∧ i = .int .i64 (4 - (k : Int)) ∧ o = .int .u64 (y : Int) ∧ Hid (y = w5 C (5 - k) * 9223372036854775808 % 18446744073709551616) ∧ Hid (Blk wr g 82 (dc5 C (C / 2) k)) ∧ Hid (Blk wr (g + 1) 82 z5c) ∧ Hid (Below W.heap.size W wr)) (fun _ i _ => (intOf i + 1).toNat)
  case atStart => exact ⟨0, 0, by omega, rfl, rfl, by show _ = _; rw [w5_top C hC], B1, B2, E⟩
  case round =>
    clear B1 B2 E
    obtain ⟨k, y, hk, rfl, rfl, Y, B1, B2, E⟩ := hrel
    have hcc : k = 0 ∨ k = 1 ∨ k = 2 ∨ k = 3 ∨ k = 4 ∨ k = 5 := by omega
    rcases hcc with rfl | rfl | rfl | rfl | rfl | rfl
    · have hx := w5_lt C 4
      obtain ⟨x, hxx⟩ : ∃ x, w5 C 4 = x := ⟨_, rfl⟩
      rw [hxx] at hx
      have hy : y < 18446744073709551616 := by have := Y.out; omega
      have c1 : wr.cell? ⟨g, 4, none⟩ = some (.int .u64 (x : Int)) := by rw [← hxx]; exact B1.out.cell 4
      have f1 := B1.out.frozen 4
      have hv := hide (down1_or C 4 x y hxx Y.out)
      have hw : Hid (IntKind.u64.wrap ((x : Int) * 9223372036854775808) = ((x * 9223372036854775808 % 18446744073709551616 : Nat) : Int)) := by
        show _ = _
        rw [wrap_u64']; omega
      have Hx := hide hxx
      clear hxx
      go_wp2_with fail
      go_roundw
      case rel =>
        refine ⟨1, x * 9223372036854775808 % 18446744073709551616, by omega, by simp, congrArg (Value.int .u64) hw.out, hide (by rw [← Hx.out]), hide ?_, hide (B2.out.far (by simp) _), hide (E.out.setCell (by have := Hg.out; (try show W.heap.size ≤ g); omega) _)⟩
        rw [hv.out]
        have := B1.out.set_ 4 (.int .u64 (w5 (C / 2) 4 : Int))
        simpa [dc5, dn5] using this
      case measure => simp [intOf]
    · have hx := w5_lt C 3
      obtain ⟨x, hxx⟩ : ∃ x, w5 C 3 = x := ⟨_, rfl⟩
      rw [hxx] at hx
      have hy : y < 18446744073709551616 := by have := Y.out; omega
      have c1 : wr.cell? ⟨g, 3, none⟩ = some (.int .u64 (x : Int)) := by rw [← hxx]; exact B1.out.cell 3
      have f1 := B1.out.frozen 3
      have hv := hide (down1_or C 3 x y hxx Y.out)
      have hw : Hid (IntKind.u64.wrap ((x : Int) * 9223372036854775808) = ((x * 9223372036854775808 % 18446744073709551616 : Nat) : Int)) := by
        show _ = _
        rw [wrap_u64']; omega
      have Hx := hide hxx
      clear hxx
      go_wp2_with fail
      go_roundw
      case rel =>
        refine ⟨2, x * 9223372036854775808 % 18446744073709551616, by omega, by simp, congrArg (Value.int .u64) hw.out, hide (by rw [← Hx.out]), hide ?_, hide (B2.out.far (by simp) _), hide (E.out.setCell (by have := Hg.out; (try show W.heap.size ≤ g); omega) _)⟩
        rw [hv.out]
        have := B1.out.set_ 3 (.int .u64 (w5 (C / 2) 3 : Int))
        simpa [dc5, dn5] using this
      case measure => simp [intOf]
    · have hx := w5_lt C 2
      obtain ⟨x, hxx⟩ : ∃ x, w5 C 2 = x := ⟨_, rfl⟩
      rw [hxx] at hx
      have hy : y < 18446744073709551616 := by have := Y.out; omega
      have c1 : wr.cell? ⟨g, 2, none⟩ = some (.int .u64 (x : Int)) := by rw [← hxx]; exact B1.out.cell 2
      have f1 := B1.out.frozen 2
      have hv := hide (down1_or C 2 x y hxx Y.out)
      have hw : Hid (IntKind.u64.wrap ((x : Int) * 9223372036854775808) = ((x * 9223372036854775808 % 18446744073709551616 : Nat) : Int)) := by
        show _ = _
        rw [wrap_u64']; omega
      have Hx := hide hxx
      clear hxx
      go_wp2_with fail
      go_roundw
      case rel =>
        refine ⟨3, x * 9223372036854775808 % 18446744073709551616, by omega, by simp, congrArg (Value.int .u64) hw.out, hide (by rw [← Hx.out]), hide ?_, hide (B2.out.far (by simp) _), hide (E.out.setCell (by have := Hg.out; (try show W.heap.size ≤ g); omega) _)⟩
        rw [hv.out]
        have := B1.out.set_ 2 (.int .u64 (w5 (C / 2) 2 : Int))
        simpa [dc5, dn5] using this
      case measure => simp [intOf]
    · have hx := w5_lt C 1
      obtain ⟨x, hxx⟩ : ∃ x, w5 C 1 = x := ⟨_, rfl⟩
      rw [hxx] at hx
      have hy : y < 18446744073709551616 := by have := Y.out; omega
      have c1 : wr.cell? ⟨g, 1, none⟩ = some (.int .u64 (x : Int)) := by rw [← hxx]; exact B1.out.cell 1
      have f1 := B1.out.frozen 1
      have hv := hide (down1_or C 1 x y hxx Y.out)
      have hw : Hid (IntKind.u64.wrap ((x : Int) * 9223372036854775808) = ((x * 9223372036854775808 % 18446744073709551616 : Nat) : Int)) := by
        show _ = _
        rw [wrap_u64']; omega
      have Hx := hide hxx
      clear hxx
      go_wp2_with fail
      go_roundw
      case rel =>
        refine ⟨4, x * 9223372036854775808 % 18446744073709551616, by omega, by simp, congrArg (Value.int .u64) hw.out, hide (by rw [← Hx.out]), hide ?_, hide (B2.out.far (by simp) _), hide (E.out.setCell (by have := Hg.out; (try show W.heap.size ≤ g); omega) _)⟩
        rw [hv.out]
        have := B1.out.set_ 1 (.int .u64 (w5 (C / 2) 1 : Int))
        simpa [dc5, dn5] using this
      case measure => simp [intOf]
    · have hx := w5_lt C 0
      obtain ⟨x, hxx⟩ : ∃ x, w5 C 0 = x := ⟨_, rfl⟩
      rw [hxx] at hx
      have hy : y < 18446744073709551616 := by have := Y.out; omega
      have c1 : wr.cell? ⟨g, 0, none⟩ = some (.int .u64 (x : Int)) := by rw [← hxx]; exact B1.out.cell 0
      have f1 := B1.out.frozen 0
      have hv := hide (down1_or C 0 x y hxx Y.out)
      have hw : Hid (IntKind.u64.wrap ((x : Int) * 9223372036854775808) = ((x * 9223372036854775808 % 18446744073709551616 : Nat) : Int)) := by
        show _ = _
        rw [wrap_u64']; omega
      have Hx := hide hxx
      clear hxx
      go_wp2_with fail
      go_roundw
      case rel =>
        refine ⟨5, x * 9223372036854775808 % 18446744073709551616, by omega, by simp, congrArg (Value.int .u64) hw.out, hide (by rw [← Hx.out]), hide ?_, hide (B2.out.far (by simp) _), hide (E.out.setCell (by have := Hg.out; (try show W.heap.size ≤ g); omega) _)⟩
        rw [hv.out]
        have := B1.out.set_ 0 (.int .u64 (w5 (C / 2) 0 : Int))
        simpa [dc5, dn5] using this
      case measure => simp [intOf]
    · have n1 : ¬ (0 : Int) ≤ 4 - ((5 : Nat) : Int) := by omega
      have B1 : Hid (Blk wr g 82 (ag5 (C / 2))) := by have := B1.out; rw [dc5_full] at this; exact this
      go_wp2_with (first
        | (refine wpList_load_row rfl 82 (.tmp 2) rfl g rfl 82 (ag5 (C / 2)) (0, 0) _ B1.out Try.underlying82 rfl (by rw [info5, ag5_size]) ?_)
        | (refine wpList_store_row rfl 82 (.tmp 4) (.tmp 26) rfl (g + 1) (ag5 (C / 2)) rfl rfl 82 z5c B2.out (by rw [info5, ag5_size]) (by rw [ag5_size]; rfl) (ag5_one _) ?_))
      have hr := B2.out.setRow (ag5 (C / 2))
      exact bodyPost_ret (results_cell_row (p := 4) (ty := 82) rfl _ _ (g + 1) 82 (ag5 (C / 2)) (0, 0) _ rfl hr Try.underlying82 rfl (by rw [info5, ag5_size])) rfl ⟨rfl, below_row' E.out (by have := Hg.out; omega) _⟩
set_option maxRecDepth 100000 in
set_option maxHeartbeats 1600000 in
theorem p_up7 (C : Nat) (W : World) : Calls Try.prog 50 #[.agg (ag5 C), .int .u64 7] W (Ret (.agg (ag5 (C * 128))) W) := by
  unfold ag5
  go_enter Try.func50, Try.ntmps50
  go_upto_region 3 with fail
  have H2 := two_blocks W (.cells (ag5 C) 82) (.cells z5c 82)
  have E := (ext_alloc W (.cells (ag5 C) 82)).trans (ext_alloc _ (.cells z5c 82))
  unfold ag5 z5c at H2 E
  obtain ⟨w2, hw2⟩ : ∃ w2, (W.alloc (.cells #[.int .u64 (w5 C 0 : Int), .int .u64 (w5 C 1 : Int), .int .u64 (w5 C 2 : Int), .int .u64 (w5 C 3 : Int), .int .u64 (w5 C 4 : Int)] 82)).alloc (.cells #[.int .u64 0, .int .u64 0, .int .u64 0, .int .u64 0, .int .u64 0] 82) = w2 := ⟨_, rfl⟩
  rw [hw2] at H2 E ⊢
  obtain ⟨g, hg⟩ : ∃ g, W.heap.size = g := ⟨_, rfl⟩
  rw [hg] at H2 ⊢
  have B1 : Hid (Blk w2 g 82 (uc5 C (C * 128) 0)) := H2.1
  have B2 : Hid (Blk w2 (g + 1) 82 z5c) := H2.2
  have Hg := hide hg
  have E := hide E
  clear hw2 hg H2
  go_loopw [5, 9] (fun o i wr => ∃ (k y : Nat), k ≤ 5 ∧ i = .int .i64 (k : Int) ∧ o = .int .u64 (y : Int) ∧ Hid (y = ovU C 144115188075855872 k) ∧ Hid (Blk wr g 82 (uc5 C (C * 128) k)) ∧ Hid (Blk wr (g + 1) 82 z5c) ∧ Hid (Below W.heap.size W wr)) (fun _ i _ => (5 - intOf i).toNat)
  case atStart => exact ⟨0, 0, by omega, rfl, rfl, rfl, B1, B2, E⟩
  case round =>
    clear B1 B2 E
    obtain ⟨k, y, hk, rfl, rfl, Y, B1, B2, E⟩ := hrel
    have hcc : k = 0 ∨ k = 1 ∨ k = 2 ∨ k = 3 ∨ k = 4 ∨ k = 5 := by omega
    rcases hcc with rfl | rfl | rfl | rfl | rfl | rfl
    · have hx := w5_lt C 0
      obtain ⟨x, hxx⟩ : ∃ x, w5 C 0 = x := ⟨_, rfl⟩
      rw [hxx] at hx
      have hy : y < 18446744073709551616 := by
        rw [Y.out]
        show 0 < 18446744073709551616
        omega
      have c1 : wr.cell? ⟨g, 0, none⟩ = some (.int .u64 (x : Int)) := by rw [← hxx]; exact B1.out.cell 0
      have f1 := B1.out.frozen 0
      have ix : ∀ w, (Instr.index 82 (.agg #[.int .u64 (x : Int), .int .u64 (w5 C 1 : Int), .int .u64 (w5 C 2 : Int), .int .u64 (w5 C 3 : Int), .int .u64 (w5 C 4 : Int)]) (.int .i64 0)).run Try.prog w = .ok (.int .u64 (x : Int)) w := fun w => by kernel_rfl
      have hv := hide (up7_or C 0 x y hxx Y.out)
      have Hx := hide hxx
      rw [hxx]
      clear hxx
      go_wp2_with fail
      go_roundw
      case rel =>
        refine ⟨1, x / 144115188075855872, by omega, by simp, congrArg (Value.int .u64) (by omega), hide (by rw [← Hx.out]; rfl), hide ?_, hide (B2.out.far (by simp) _), hide (E.out.setCell (by have := Hg.out; (try show W.heap.size ≤ g); omega) _)⟩
        rw [hv.out]
        have := B1.out.set_ 0 (.int .u64 (w5 (C * 128) 0 : Int))
        simpa [uc5] using this
      case measure => simp [intOf]
    · have hx := w5_lt C 1
      obtain ⟨x, hxx⟩ : ∃ x, w5 C 1 = x := ⟨_, rfl⟩
      rw [hxx] at hx
      have hy : y < 18446744073709551616 := by
        rw [Y.out]
        have := w5_lt C 0
        show w5 C 0 / 144115188075855872 < 18446744073709551616
        omega
      have c1 : wr.cell? ⟨g, 1, none⟩ = some (.int .u64 (x : Int)) := by rw [← hxx]; exact B1.out.cell 1
      have f1 := B1.out.frozen 1
      have ix : ∀ w, (Instr.index 82 (.agg #[.int .u64 (w5 C 0 : Int), .int .u64 (x : Int), .int .u64 (w5 C 2 : Int), .int .u64 (w5 C 3 : Int), .int .u64 (w5 C 4 : Int)]) (.int .i64 1)).run Try.prog w = .ok (.int .u64 (x : Int)) w := fun w => by kernel_rfl
      have hv := hide (up7_or C 1 x y hxx Y.out)
      have Hx := hide hxx
      rw [hxx]
      clear hxx
      go_wp2_with fail
      go_roundw
      case rel =>
        refine ⟨2, x / 144115188075855872, by omega, by simp, congrArg (Value.int .u64) (by omega), hide (by rw [← Hx.out]; rfl), hide ?_, hide (B2.out.far (by simp) _), hide (E.out.setCell (by have := Hg.out; (try show W.heap.size ≤ g); omega) _)⟩
        rw [hv.out]
        have := B1.out.set_ 1 (.int .u64 (w5 (C * 128) 1 : Int))
        simpa [uc5] using this
      case measure => simp [intOf]
    · have hx := w5_lt C 2
      obtain ⟨x, hxx⟩ : ∃ x, w5 C 2 = x := ⟨_, rfl⟩
      rw [hxx] at hx
      have hy : y < 18446744073709551616 := by
        rw [Y.out]
        have := w5_lt C 1
        show w5 C 1 / 144115188075855872 < 18446744073709551616
        omega
      have c1 : wr.cell? ⟨g, 2, none⟩ = some (.int .u64 (x : Int)) := by rw [← hxx]; exact B1.out.cell 2
      have f1 := B1.out.frozen 2
      have ix : ∀ w, (Instr.index 82 (.agg #[.int .u64 (w5 C 0 : Int), .int .u64 (w5 C 1 : Int), .int .u64 (x : Int), .int .u64 (w5 C 3 : Int), .int .u64 (w5 C 4 : Int)]) (.int .i64 2)).run Try.prog w = .ok (.int .u64 (x : Int)) w := fun w => by kernel_rfl
      have hv := hide (up7_or C 2 x y hxx Y.out)
      have Hx := hide hxx
      rw [hxx]
      clear hxx
      go_wp2_with fail
      go_roundw
      case rel =>
        refine ⟨3, x / 144115188075855872, by omega, by simp, congrArg (Value.int .u64) (by omega), hide (by rw [← Hx.out]; rfl), hide ?_, hide (B2.out.far (by simp) _), hide (E.out.setCell (by have := Hg.out; (try show W.heap.size ≤ g); omega) _)⟩
        rw [hv.out]
        have := B1.out.set_ 2 (.int .u64 (w5 (C * 128) 2 : Int))
        simpa [uc5] using this
      case measure => simp [intOf]
    · have hx := w5_lt C 3
      obtain ⟨x, hxx⟩ : ∃ x, w5 C 3 = x := ⟨_, rfl⟩
      rw [hxx] at hx
      have hy : y < 18446744073709551616 := by
        rw [Y.out]
        have := w5_lt C 2
        show w5 C 2 / 144115188075855872 < 18446744073709551616
        omega
      have c1 : wr.cell? ⟨g, 3, none⟩ = some (.int .u64 (x : Int)) := by rw [← hxx]; exact B1.out.cell 3
      have f1 := B1.out.frozen 3
      have ix : ∀ w, (Instr.index 82 (.agg #[.int .u64 (w5 C 0 : Int), .int .u64 (w5 C 1 : Int), .int .u64 (w5 C 2 : Int), .int .u64 (x : Int), .int .u64 (w5 C 4 : Int)]) (.int .i64 3)).run Try.prog w = .ok (.int .u64 (x : Int)) w := fun w => by kernel_rfl
      have hv := hide (up7_or C 3 x y hxx Y.out)
      have Hx := hide hxx
      rw [hxx]
      clear hxx
      go_wp2_with fail
      go_roundw
      case rel =>
        refine ⟨4, x / 144115188075855872, by omega, by simp, congrArg (Value.int .u64) (by omega), hide (by rw [← Hx.out]; rfl), hide ?_, hide (B2.out.far (by simp) _), hide (E.out.setCell (by have := Hg.out; (try show W.heap.size ≤ g); omega) _)⟩
        rw [hv.out]
        have := B1.out.set_ 3 (.int .u64 (w5 (C * 128) 3 : Int))
        simpa [uc5] using this
      case measure => simp [intOf]
    · have hx := w5_lt C 4
      obtain ⟨x, hxx⟩ : ∃ x, w5 C 4 = x := ⟨_, rfl⟩
      rw [hxx] at hx
      have hy : y < 18446744073709551616 := by
        rw [Y.out]
        have := w5_lt C 3
        show w5 C 3 / 144115188075855872 < 18446744073709551616
        omega
      have c1 : wr.cell? ⟨g, 4, none⟩ = some (.int .u64 (x : Int)) := by rw [← hxx]; exact B1.out.cell 4
      have f1 := B1.out.frozen 4
      have ix : ∀ w, (Instr.index 82 (.agg #[.int .u64 (w5 C 0 : Int), .int .u64 (w5 C 1 : Int), .int .u64 (w5 C 2 : Int), .int .u64 (w5 C 3 : Int), .int .u64 (x : Int)]) (.int .i64 4)).run Try.prog w = .ok (.int .u64 (x : Int)) w := fun w => by kernel_rfl
      have hv := hide (up7_or C 4 x y hxx Y.out)
      have Hx := hide hxx
      rw [hxx]
      clear hxx
      go_wp2_with fail
      go_roundw
      case rel =>
        refine ⟨5, x / 144115188075855872, by omega, by simp, congrArg (Value.int .u64) (by omega), hide (by rw [← Hx.out]; rfl), hide ?_, hide (B2.out.far (by simp) _), hide (E.out.setCell (by have := Hg.out; (try show W.heap.size ≤ g); omega) _)⟩
        rw [hv.out]
        have := B1.out.set_ 4 (.int .u64 (w5 (C * 128) 4 : Int))
        simpa [uc5] using this
      case measure => simp [intOf]
    · have n1 : ¬ ((5 : Nat) : Int) < 5 := by omega
      have B1 : Hid (Blk wr g 82 (ag5 (C * 128))) := by have := B1.out; rw [uc5_full] at this; exact this
      go_wp2_with (first
        | (refine wpList_load_row rfl 82 (.tmp 2) rfl g rfl 82 (ag5 (C * 128)) (0, 0) _ B1.out Try.underlying82 rfl (by rw [info5, ag5_size]) ?_)
        | (refine wpList_store_row rfl 82 (.tmp 4) (.tmp 25) rfl (g + 1) (ag5 (C * 128)) rfl rfl 82 z5c B2.out (by rw [info5, ag5_size]) (by rw [ag5_size]; rfl) (ag5_one _) ?_))
      have hr := B2.out.setRow (ag5 (C * 128))
      exact bodyPost_ret (results_cell_row (p := 4) (ty := 82) rfl _ _ (g + 1) 82 (ag5 (C * 128)) (0, 0) _ rfl hr Try.underlying82 rfl (by rw [info5, ag5_size])) rfl ⟨rfl, below_row' E.out (by have := Hg.out; omega) _⟩
set_option maxRecDepth 100000 in
set_option maxHeartbeats 1600000 in
theorem p_up1 (C : Nat) (W : World) : Calls Try.prog 50 #[.agg (ag5 C), .int .u64 1] W (Ret (.agg (ag5 (C * 2))) W) := by
  unfold ag5
  go_enter Try.func50, Try.ntmps50
  go_upto_region 3 with fail
  have H2 := two_blocks W (.cells (ag5 C) 82) (.cells z5c 82)
  have E := (ext_alloc W (.cells (ag5 C) 82)).trans (ext_alloc _ (.cells z5c 82))
  unfold ag5 z5c at H2 E
  obtain ⟨w2, hw2⟩ : ∃ w2, (W.alloc (.cells #[.int .u64 (w5 C 0 : Int), .int .u64 (w5 C 1 : Int), .int .u64 (w5 C 2 : Int), .int .u64 (w5 C 3 : Int), .int .u64 (w5 C 4 : Int)] 82)).alloc (.cells #[.int .u64 0, .int .u64 0, .int .u64 0, .int .u64 0, .int .u64 0] 82) = w2 := ⟨_, rfl⟩
  rw [hw2] at H2 E ⊢
  obtain ⟨g, hg⟩ : ∃ g, W.heap.size = g := ⟨_, rfl⟩
  rw [hg] at H2 ⊢
  have B1 : Hid (Blk w2 g 82 (uc5 C (C * 2) 0)) := H2.1
  have B2 : Hid (Blk w2 (g + 1) 82 z5c) := H2.2
  have Hg := hide hg
  have E := hide E
  clear hw2 hg H2
  go_loopw [5, 9] (fun o i wr => ∃ (k y : Nat), k ≤ 5 ∧ i = .int .i64 (k : Int) ∧ o = .int .u64 (y : Int) ∧ Hid (y = ovU C 9223372036854775808 k) ∧ Hid (Blk wr g 82 (uc5 C (C * 2) k)) ∧ Hid (Blk wr (g + 1) 82 z5c) ∧ Hid (Below W.heap.size W wr)) (fun _ i _ => (5 - intOf i).toNat)
  case atStart => exact ⟨0, 0, by omega, rfl, rfl, rfl, B1, B2, E⟩
  case round =>
    clear B1 B2 E
    obtain ⟨k, y, hk, rfl, rfl, Y, B1, B2, E⟩ := hrel
    have hcc : k = 0 ∨ k = 1 ∨ k = 2 ∨ k = 3 ∨ k = 4 ∨ k = 5 := by omega
    rcases hcc with rfl | rfl | rfl | rfl | rfl | rfl
    · have hx := w5_lt C 0
      obtain ⟨x, hxx⟩ : ∃ x, w5 C 0 = x := ⟨_, rfl⟩
      rw [hxx] at hx
      have hy : y < 18446744073709551616 := by
        rw [Y.out]
        show 0 < 18446744073709551616
        omega
      have c1 : wr.cell? ⟨g, 0, none⟩ = some (.int .u64 (x : Int)) := by rw [← hxx]; exact B1.out.cell 0
      have f1 := B1.out.frozen 0
      have ix : ∀ w, (Instr.index 82 (.agg #[.int .u64 (x : Int), .int .u64 (w5 C 1 : Int), .int .u64 (w5 C 2 : Int), .int .u64 (w5 C 3 : Int), .int .u64 (w5 C 4 : Int)]) (.int .i64 0)).run Try.prog w = .ok (.int .u64 (x : Int)) w := fun w => by kernel_rfl
      have hv := hide (up1_or C 0 x y hxx Y.out)
      have Hx := hide hxx
      rw [hxx]
      clear hxx
      go_wp2_with fail
      go_roundw
      case rel =>
        refine ⟨1, x / 9223372036854775808, by omega, by simp, congrArg (Value.int .u64) (by omega), hide (by rw [← Hx.out]; rfl), hide ?_, hide (B2.out.far (by simp) _), hide (E.out.setCell (by have := Hg.out; (try show W.heap.size ≤ g); omega) _)⟩
        rw [hv.out]
        have := B1.out.set_ 0 (.int .u64 (w5 (C * 2) 0 : Int))
        simpa [uc5] using this
      case measure => simp [intOf]
    · have hx := w5_lt C 1
      obtain ⟨x, hxx⟩ : ∃ x, w5 C 1 = x := ⟨_, rfl⟩
      rw [hxx] at hx
      have hy : y < 18446744073709551616 := by
        rw [Y.out]
        have := w5_lt C 0
        show w5 C 0 / 9223372036854775808 < 18446744073709551616
        omega
      have c1 : wr.cell? ⟨g, 1, none⟩ = some (.int .u64 (x : Int)) := by rw [← hxx]; exact B1.out.cell 1
      have f1 := B1.out.frozen 1
      have ix : ∀ w, (Instr.index 82 (.agg #[.int .u64 (w5 C 0 : Int), .int .u64 (x : Int), .int .u64 (w5 C 2 : Int), .int .u64 (w5 C 3 : Int), .int .u64 (w5 C 4 : Int)]) (.int .i64 1)).run Try.prog w = .ok (.int .u64 (x : Int)) w := fun w => by kernel_rfl
      have hv := hide (up1_or C 1 x y hxx Y.out)
      have Hx := hide hxx
      rw [hxx]
      clear hxx
      go_wp2_with fail
      go_roundw
      case rel =>
        refine ⟨2, x / 9223372036854775808, by omega, by simp, congrArg (Value.int .u64) (by omega), hide (by rw [← Hx.out]; rfl), hide ?_, hide (B2.out.far (by simp) _), hide (E.out.setCell (by have := Hg.out; (try show W.heap.size ≤ g); omega) _)⟩
        rw [hv.out]
        have := B1.out.set_ 1 (.int .u64 (w5 (C * 2) 1 : Int))
        simpa [uc5] using this
      case measure => simp [intOf]
    · have hx := w5_lt C 2
      obtain ⟨x, hxx⟩ : ∃ x, w5 C 2 = x := ⟨_, rfl⟩
      rw [hxx] at hx
      have hy : y < 18446744073709551616 := by
        rw [Y.out]
        have := w5_lt C 1
        show w5 C 1 / 9223372036854775808 < 18446744073709551616
        omega
      have c1 : wr.cell? ⟨g, 2, none⟩ = some (.int .u64 (x : Int)) := by rw [← hxx]; exact B1.out.cell 2
      have f1 := B1.out.frozen 2
      have ix : ∀ w, (Instr.index 82 (.agg #[.int .u64 (w5 C 0 : Int), .int .u64 (w5 C 1 : Int), .int .u64 (x : Int), .int .u64 (w5 C 3 : Int), .int .u64 (w5 C 4 : Int)]) (.int .i64 2)).run Try.prog w = .ok (.int .u64 (x : Int)) w := fun w => by kernel_rfl
      have hv := hide (up1_or C 2 x y hxx Y.out)
      have Hx := hide hxx
      rw [hxx]
      clear hxx
      go_wp2_with fail
      go_roundw
      case rel =>
        refine ⟨3, x / 9223372036854775808, by omega, by simp, congrArg (Value.int .u64) (by omega), hide (by rw [← Hx.out]; rfl), hide ?_, hide (B2.out.far (by simp) _), hide (E.out.setCell (by have := Hg.out; (try show W.heap.size ≤ g); omega) _)⟩
        rw [hv.out]
        have := B1.out.set_ 2 (.int .u64 (w5 (C * 2) 2 : Int))
        simpa [uc5] using this
      case measure => simp [intOf]
    · have hx := w5_lt C 3
      obtain ⟨x, hxx⟩ : ∃ x, w5 C 3 = x := ⟨_, rfl⟩
      rw [hxx] at hx
      have hy : y < 18446744073709551616 := by
        rw [Y.out]
        have := w5_lt C 2
        show w5 C 2 / 9223372036854775808 < 18446744073709551616
        omega
      have c1 : wr.cell? ⟨g, 3, none⟩ = some (.int .u64 (x : Int)) := by rw [← hxx]; exact B1.out.cell 3
      have f1 := B1.out.frozen 3
      have ix : ∀ w, (Instr.index 82 (.agg #[.int .u64 (w5 C 0 : Int), .int .u64 (w5 C 1 : Int), .int .u64 (w5 C 2 : Int), .int .u64 (x : Int), .int .u64 (w5 C 4 : Int)]) (.int .i64 3)).run Try.prog w = .ok (.int .u64 (x : Int)) w := fun w => by kernel_rfl
      have hv := hide (up1_or C 3 x y hxx Y.out)
      have Hx := hide hxx
      rw [hxx]
      clear hxx
      go_wp2_with fail
      go_roundw
      case rel =>
        refine ⟨4, x / 9223372036854775808, by omega, by simp, congrArg (Value.int .u64) (by omega), hide (by rw [← Hx.out]; rfl), hide ?_, hide (B2.out.far (by simp) _), hide (E.out.setCell (by have := Hg.out; (try show W.heap.size ≤ g); omega) _)⟩
        rw [hv.out]
        have := B1.out.set_ 3 (.int .u64 (w5 (C * 2) 3 : Int))
        simpa [uc5] using this
      case measure => simp [intOf]
    · have hx := w5_lt C 4
      obtain ⟨x, hxx⟩ : ∃ x, w5 C 4 = x := ⟨_, rfl⟩
      rw [hxx] at hx
      have hy : y < 18446744073709551616 := by
        rw [Y.out]
        have := w5_lt C 3
        show w5 C 3 / 9223372036854775808 < 18446744073709551616
        omega
      have c1 : wr.cell? ⟨g, 4, none⟩ = some (.int .u64 (x : Int)) := by rw [← hxx]; exact B1.out.cell 4
      have f1 := B1.out.frozen 4
      have ix : ∀ w, (Instr.index 82 (.agg #[.int .u64 (w5 C 0 : Int), .int .u64 (w5 C 1 : Int), .int .u64 (w5 C 2 : Int), .int .u64 (w5 C 3 : Int), .int .u64 (x : Int)]) (.int .i64 4)).run Try.prog w = .ok (.int .u64 (x : Int)) w := fun w => by kernel_rfl
      have hv := hide (up1_or C 4 x y hxx Y.out)
      have Hx := hide hxx
      rw [hxx]
      clear hxx
      go_wp2_with fail
      go_roundw
      case rel =>
        refine ⟨5, x / 9223372036854775808, by omega, by simp, congrArg (Value.int .u64) (by omega), hide (by rw [← Hx.out]; rfl), hide ?_, hide (B2.out.far (by simp) _), hide (E.out.setCell (by have := Hg.out; (try show W.heap.size ≤ g); omega) _)⟩
        rw [hv.out]
        have := B1.out.set_ 4 (.int .u64 (w5 (C * 2) 4 : Int))
        simpa [uc5] using this
      case measure => simp [intOf]
    · have n1 : ¬ ((5 : Nat) : Int) < 5 := by omega
      have B1 : Hid (Blk wr g 82 (ag5 (C * 2))) := by have := B1.out; rw [uc5_full] at this; exact this
      go_wp2_with (first
        | (refine wpList_load_row rfl 82 (.tmp 2) rfl g rfl 82 (ag5 (C * 2)) (0, 0) _ B1.out Try.underlying82 rfl (by rw [info5, ag5_size]) ?_)
        | (refine wpList_store_row rfl 82 (.tmp 4) (.tmp 25) rfl (g + 1) (ag5 (C * 2)) rfl rfl 82 z5c B2.out (by rw [info5, ag5_size]) (by rw [ag5_size]; rfl) (ag5_one _) ?_))
      have hr := B2.out.setRow (ag5 (C * 2))
      exact bodyPost_ret (results_cell_row (p := 4) (ty := 82) rfl _ _ (g + 1) 82 (ag5 (C * 2)) (0, 0) _ rfl hr Try.underlying82 rfl (by rw [info5, ag5_size])) rfl ⟨rfl, below_row' E.out (by have := Hg.out; omega) _⟩
end Go.Proofs.Ytdboaogdanahkaa
