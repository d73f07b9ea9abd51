/- The program's groups of a code. Conditions: the code fits. -/
import Derived.Test.YtdboaogdanahkaaVarH
import Derived.Test.YtdboaogdanahkaaVarD
import Derived.Test.YtdboaogdanahkaaFixA
namespace Go.Proofs.Ytdboaogdanahkaa
set_option linter.unusedVariables false
set_option linter.unusedSimpArgs false
open Go Go.RowKit
def StC (C g j : Nat) (w : World) : Prop := Blk w g 82 (ag5 (C / 128 ^ j))
theorem upd_setRow {W w : World} {g : Nat} (u : Upd g W w) (cs : Array Value) : Upd g W (w.setRow g cs) := by
  refine ⟨u.1, u.2.1, u.2.2.1, ?_, fun k hk hn => ?_⟩
  · show W.heap.size ≤ (w.heap.modify g _).size
    rw [Array.size_modify]; exact u.2.2.2.1
  · show (w.heap.modify g _)[k]? = _
    rw [Array.getElem?_modify, if_neg (by omega)]; exact u.2.2.2.2 k hk hn
set_option maxRecDepth 100000 in
theorem p_next2 (C g j : Nat) (w : World) (hC : C < 18446744073709551616 ^ 5) (h : StC C g j w) : Calls Try.prog 56 #[.pointer (some ⟨g, 0, none⟩)] w (fun e w' => e = .returned (.int .u8 (gr C j : Int)) ∧ StC C g (j + 1) w' ∧ Upd g w w') := by
  have hX : C / 128 ^ j < 18446744073709551616 ^ 5 := Nat.lt_of_le_of_lt (Nat.div_le_self _ _) hC
  have e1 : Hid (C / 128 ^ (j + 1) = C / 128 ^ j / 128) := by
    show _ = _
    rw [Nat.pow_succ, Nat.div_div_eq_div_mul]
  have e2 : Hid (gr C j = w5 (C / 128 ^ j) 0 % 128) := by
    show _ = _
    unfold gr w5
    simp only [Nat.pow_zero, Nat.div_one]
    omega
  unfold StC at h
  obtain ⟨X, hXX⟩ : ∃ X, C / 128 ^ j = X := ⟨_, rfl⟩
  rw [hXX] at h hX e1 e2
  have KD : Hid (∀ w, Calls Try.prog 57 #[.agg (ag5 X), .int .u64 7] w (Ret (.agg (ag5 (X / 128))) w)) := fun w => p_down7 X w hX
  have hxl := w5_lt X 0
  have c0 : w.cell? ⟨g, 0, none⟩ = some (.int .u64 (w5 X 0 : Int)) := h.cell 0
  obtain ⟨x, hx⟩ : ∃ x, w5 X 0 = x := ⟨_, rfl⟩
  rw [hx] at c0 e2 hxl
  have H := hide h
  have ge := h.lt
  have eg : Hid (∀ y : Int, y = (x : Int) % 128 → Ending.returned (.int .u8 y) = .returned (.int .u8 (gr C j : Int))) := fun y hy => by rw [hy, e2.out]; rfl
  clear hXX hx h e2
  go_enter Try.func56, Try.ntmps56
  go_wp2_with (first
    | (refine wpList_load_row rfl 82 (.tmp 0) rfl g rfl 82 (ag5 X) (0, 0) _ H.out Try.underlying82 rfl (by rw [info5, ag5_size]) ?_)
    | (go_at_call 57; (with_reducible refine (KD.out _).mono ?_); rintro e w1 ⟨rfl, hE⟩; have H1 := hide (H.out.ext hE))
    | (refine wpList_store_row rfl 82 (.tmp 0) (.tmp 8) rfl g (ag5 (X / 128)) rfl rfl 82 (ag5 X) H1.out (by rw [info5, ag5_size]) (by rw [ag5_size, ag5_size]) (ag5_one _) ?_))
  go_ret
  refine ⟨eg.out _ rfl, ?_, upd_setRow (hE.upd g) _⟩
  unfold StC
  rw [e1.out]
  exact H1.out.setRow _
theorem yields2 (C g : Nat) (hC : C < 18446744073709551616 ^ 5) : Yields 56 #[.pointer (some ⟨g, 0, none⟩)] g (StC C g) (gr C) :=
  ⟨fun j w h => p_next2 C g j w hC h, fun j w w' h hs e => e.trans h, fun w => by go_simp, fun j => gr_lt C j, fun j w h => h.lt⟩
end Go.Proofs.Ytdboaogdanahkaa
