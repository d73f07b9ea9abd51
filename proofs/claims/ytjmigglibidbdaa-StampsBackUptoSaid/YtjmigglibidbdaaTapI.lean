/- The tape's Int. Conditions: the numbers of the tape lie in memory that was there. -/
import Derived.Test.YtjmigglibidbdaaTapeB
namespace Go.Proofs.Ytjmigglibidbdaa
set_option linter.unusedVariables false
set_option linter.unusedSimpArgs false
open Go Go.RowKit
theorem i64_wrap (x : Int) : I64 (wrap64 x) := by unfold I64; simp only [wrap64]; omega
theorem t_int (B b : Nat) (W w : World) (hT : TapeOk B w b) (hW : Upd b W w) :
    Calls Try.prog 20 #[.pointer (some ⟨b, 0, none⟩)] w (NextPost B b I64 .i64 W) := by
  go_enter Try.func20, Try.ntmps20
  go_wp2_with (first
    | (go_at_call 10; refine (t_next' _ _ _ W _ ⟨by omega, by omega⟩ ‹_› ‹_›).mono ?_; rintro e w' ⟨u, rfl, hu, hT2, hB2⟩)
    | (go_at_call 23; refine (t_word' _ _ W _ ‹_› ‹_›).mono ?_; rintro e w' ⟨u, rfl, hu, hT2, hB2⟩))
  all_goals go_ret
  all_goals exact ⟨_, rfl, i64_wrap _, ‹_›, ‹_›⟩
end Go.Proofs.Ytjmigglibidbdaa
