/- divWords of the program where the divisor has more than one word. Conditions: the words are of 64 bits. -/
import Derived.Test.YtdboaogdanahkaaDiv2
import Derived.Laws.IdiomCopy
namespace Go.Proofs.Ytdboaogdanahkaa
set_option linter.unusedVariables false
set_option linter.unusedSimpArgs false
open Go Go.RowKit
/-- The first words of an array. -/
theorem slHead (T n g : Nat) (h : Int) (m : Nat) (hm : h = ((m : Nat) : Int)) (hT : Try.prog.underlying T = some (.array (Try.prog.arrayLen T) (Try.prog.elem T))) (hn : Try.prog.arrayLen T = n) (he : Try.prog.elem T = 28) (h2 : m ≤ n) (h3 : 0 < n) (w : World) :
    (Instr.sliceAt T (.pointer (some ⟨g, 0, none⟩)) none (some (.int .i64 h)) none).run Try.prog w = .ok (.slice (some ⟨g, 0, none⟩) m n) w := by
  subst hm
  rw [run_sliceAt_array_h w T ⟨g, 0, none⟩ hT .i64 (m : Int) (by omega) (by rw [hn]; omega), he, Try.sizeOf28, hn]
  simp only [Result.andThen_ok, slicedAt, Int.toNat_natCast, Nat.mul_one, Nat.sub_zero]
  rw [if_neg (by omega)]
  simp [Addr.add]
theorem five_list {L : List Nat} (h : L.length = 5) : ∃ a b c d e, L = [a, b, c, d, e] := by
  match L, h with
  | [a, b, c, d, e], _ => exact ⟨a, b, c, d, e, rfl⟩
theorem five_top {a b c d e : Nat} (h : val [a, b, c, d, e] < 115792089237316195423570985008687907853269984665640564039457584007913129639936) : mag4 a b c d = val [a, b, c, d, e] := by
  simp only [mag4, val] at h ⊢; omega
/-- Four words are copied into an array of five. -/
theorem copy4 (w : World) (g b : Nat) (v0 v1 v2 v3 : Nat) (hg : Arr w g 81 [0, 0, 0, 0, 0]) (hb : Arr w b 103 [v0, v1, v2, v3]) :
    (Builtin.copy_ #[70, 70] 3 #[.slice (some ⟨g, 0, none⟩) 5 5, .slice (some ⟨b, 0, none⟩) 4 4]).run Try.prog w = .ok (.int .i64 4) ((((w.setCell ⟨g, 0, none⟩ (.int .u64 (v0 : Int))).setCell ⟨g, 1, none⟩ (.int .u64 (v1 : Int))).setCell ⟨g, 2, none⟩ (.int .u64 (v2 : Int))).setCell ⟨g, 3, none⟩ (.int .u64 (v3 : Int))) := by
  have h := run_copy_cells (P := Try.prog) w 70 70 3 28 g 0 5 5 ⟨b, 0, none⟩ 4 4 [.int .u64 (v0 : Int), .int .u64 (v1 : Int), .int .u64 (v2 : Int), .int .u64 (v3 : Int)] Try.underlying70 (by kernel_rfl) rfl
    (fun j v hj => by
      have hj4 : j < 4 := by have := (List.getElem?_eq_some_iff.1 hj).1; simpa using this
      have : j = 0 ∨ j = 1 ∨ j = 2 ∨ j = 3 := by omega
      obtain ⟨i0, i1, i2, i3, _, _, _, _⟩ := hb.four
      rcases this with rfl | rfl | rfl | rfl <;> (simp at hj; subst hj; simpa [Addr.add] using by assumption))
    (fun j hj => by
      simp at hj
      have := hg.at (0 + j) (by simp; omega)
      rw [this]; rfl)
    (fun j _ => hg.free _) (fun v hv => by simp at hv; rcases hv with rfl | rfl | rfl | rfl <;> rfl)
  simpa [World.setCells, goInt] using h
end Go.Proofs.Ytdboaogdanahkaa
