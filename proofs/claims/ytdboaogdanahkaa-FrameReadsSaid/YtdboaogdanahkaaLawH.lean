/- Layer 6: CrcForms. Conditions: the slices read as bytes and numbers. -/
import Derived.Test.YtdboaogdanahkaaLawF
import Derived.Test.YtdboaogdanahkaaSpoA
import Derived.Test.YtdboaogdanahkaaSamA
import Derived.Test.YtdboaogdanahkaaCrcF
import Derived.Test.YtdboaogdanahkaaCrcG
import Derived.Test.YtdboaogdanahkaaCrcH
namespace Go.Proofs.Ytdboaogdanahkaa
set_option linter.unusedVariables false
set_option linter.unusedSimpArgs false
open Go Go.RowKit Go.Sort
theorem chk_short {l : List Nat} (h : l.length < 4) : chk l = false := by unfold chk; rw [decide_eq_false (by omega)]; rfl
theorem chk_long {l : List Nat} {k : Nat} (h : l.length = k + 4) : chk l = decide (l.drop k = tailL (crcB 0#32 (l.take k))) := by
  unfold chk; rw [decide_eq_true (by omega), h]; simp
theorem chk_app (l : List Nat) : chk (l ++ tailL (crcB 0#32 l)) = true := by
  rw [chk_long (k := l.length) (by simp [tailL])]
  simp
theorem p_check (A : Option Addr) (n cap : Nat) (l : List Nat) (W : World) (h : BytesAt W A l) (hn : l.length = n) (hcap : n ≤ cap) (v : Bool) (hv : chk l = v) : Calls Try.prog 83 #[.slice A n cap] W (Ret (.bool v) W) := by
  by_cases h4 : n < 4
  · rw [chk_short (by omega)] at hv
    subst hv
    exact p_check_short A cap n W h4
  · obtain ⟨k, rfl⟩ : ∃ k, n = k + 4 := ⟨n - 4, by omega⟩
    rw [chk_long hn] at hv
    exact p_check_long A cap k l W h hn (by omega) v hv
theorem r_check (A : Option Addr) (n cap : Nat) (l : List Nat) (W : World) (h : BytesAt W A l) (hn : l.length = n) (hcap : n ≤ cap) (v : Bool) (hv : chk l = v) : Calls Try.prog 81 #[.slice A n cap] W (Ret (.bool v) W) := by
  by_cases h4 : n < 4
  · rw [chk_short (by omega)] at hv
    subst hv
    exact r_check_short A cap n W h4
  · obtain ⟨k, rfl⟩ : ∃ k, n = k + 4 := ⟨n - 4, by omega⟩
    rw [chk_long hn] at hv
    exact r_check_long A cap k l W h hn (by omega) v hv
end Go.Proofs.Ytdboaogdanahkaa
