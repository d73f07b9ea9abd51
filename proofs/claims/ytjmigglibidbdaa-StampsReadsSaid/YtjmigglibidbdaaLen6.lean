/- The library's length of a number. Condition: the number is of 64 bits. -/
import Derived.Test.YtjmigglibidbdaaBase
import Derived.Shelf.Strconv.Itoa0
namespace Go.Proofs.Ytjmigglibidbdaa
set_option linter.unusedVariables false
set_option linter.unusedSimpArgs false
open Go Go.RowKit
def l64Ren : Go.Shelf.Ren := ⟨fun | 129 => 51 | n => n, fun | 53 => 52 | 3 => 3 | 4 => 4 | 46 => 54 | 5 => 5 | 9 => 9 | n => n, fun | n => n⟩
theorem l64Lays : Go.Proofs.Lays.n129 Try.prog l64Ren := {
  mixed := by kernel_rfl
  f129 := Try.func51.trans (congrArg some (by kernel_rfl))
  t3 := Try.underlying3
  a3 := Try.isAgg3
  z3 := Try.sizeOf3
  v3 := Try.zeroValue3
  t4 := Try.underlying4
  a4 := Try.isAgg4
  z4 := Try.sizeOf4
  v4 := Try.zeroValue4
  t5 := Try.underlying5
  a5 := Try.isAgg5
  z5 := Try.sizeOf5
  v5 := Try.zeroValue5
  t9 := Try.underlying9
  a9 := Try.isAgg9
  z9 := Try.sizeOf9
  v9 := Try.zeroValue9
  t46 := Try.underlying54
  a46 := Try.isAgg54
  z46 := Try.sizeOf54
  v46 := Try.zeroValue54
  t53 := Try.underlying52
  a53 := Try.isAgg52
  z53 := Try.sizeOf52
  v53 := Try.zeroValue52 }
theorem p_len64 (x : Nat) (w : World) (h : x < 18446744073709551616) : Calls Try.prog 51 #[.int .u64 (x : Int)] w (RetSame (.int .i64 (Lib.bitLen x : Int)) w) := by
  refine (Go.Proofs.Any.bits_Len64 (P := Try.prog) (ρ := l64Ren) l64Lays (x : Int) w (by omega) (by omega)).mono ?_
  rintro e w' ⟨rfl, rfl⟩
  exact ⟨by rw [Int.toNat_natCast], rfl⟩
end Go.Proofs.Ytjmigglibidbdaa
