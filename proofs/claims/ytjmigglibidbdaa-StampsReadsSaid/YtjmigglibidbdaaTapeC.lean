/- What the makers' tape returns: Bool and Wide. Conditions: the numbers of the tape lie in memory that was there. -/
import Derived.Test.YtjmigglibidbdaaTapS
import Derived.Test.YtjmigglibidbdaaTapI
import Derived.Test.YtjmigglibidbdaaMagH
import Derived.Test.YtjmigglibidbdaaWrd2
namespace Go.Proofs.Ytjmigglibidbdaa
set_option linter.unusedVariables false
set_option linter.unusedSimpArgs false
open Go Go.RowKit
def BoolPost (B b : Nat) (W : World) (e : Ending) (w' : World) : Prop := ∃ v : Bool, e = .returned (.bool v) ∧ TapeOk B w' b ∧ Upd b W w'
theorem t_bool (B b : Nat) (n : Int) (W w : World) (h1 : 2 ≤ n) (h2 : n ≤ 4) (hT : TapeOk B w b) (hW : Upd b W w) :
    Calls Try.prog 24 #[.pointer (some ⟨b, 0, none⟩), .int .i64 n] w (BoolPost B b W) := by
  have hn0 : ¬ (n = 0) := by omega
  have hm : (1 : Int).tmod n = 1 := by
    rw [Int.tmod_eq_emod_of_nonneg (by omega)]; exact Int.emod_eq_of_lt (by omega) (by omega)
  have hm2 : (1 : Int) % n = 1 := Int.emod_eq_of_lt (by omega) (by omega)
  have hT' := hT.below (below_drewN' (b + 1) w 1)
  go_enter Try.func24, Try.ntmps24
  go_wp2_with fail
  go_region_with (go_at_call 10; refine (t_next' B b n W _ ⟨by omega, by omega⟩ (by first | exact hT | exact (hT.below (below_drewN' (b + 1) w 1))) (by first | exact hW | exact hW.drew)).mono ?_; rintro e w' ⟨u, rfl, hu, hT2, hB2⟩)
  all_goals go_wp2_with fail
  all_goals go_ret
  all_goals exact ⟨_, rfl, hT2, hB2⟩
theorem four_c : W64 [0, 1, 9223372036854775808, 18446744073709551615] := by intro x hx; simp at hx; omega
def TapeWide (B b : Nat) (W : World) (e : Ending) (w' : World) : Prop := ∃ (s : Bool) (a b' c d : Nat) (z : Int), e = .returned (.agg #[.bool s, .int .u64 (a : Int), .int .u64 (b' : Int), .int .u64 (c : Int), .int .u64 (d : Int)]) ∧ IsC s a b' c d z ∧ TapeOk B w' b ∧ Upd b W w'
end Go.Proofs.Ytjmigglibidbdaa
