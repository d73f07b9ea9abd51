/- The reference's Zigzag, Unzigzag and AppendSigned of layer 5. Conditions: the numbers fit. -/
import Derived.Test.YthlficnmpgkceaaRvA
import Derived.Test.YthlficnmpgkceaaTapeB
namespace Go.Proofs.Ythlficnmpgkceaa
set_option linter.unusedVariables false
set_option linter.unusedSimpArgs false
open Go Go.RowKit
theorem v_zigzag (v : Int) (W : World) (h1 : -9223372036854775808 ≤ v) (h2 : v ≤ 9223372036854775807) : Calls Try.prog 27 #[.int .i64 v] W (RetSame (.int .u64 (zig v : Int)) W) := by
  by_cases h : 0 ≤ v
  · obtain ⟨n, rfl⟩ := Int.eq_ofNat_of_zero_le h
    have e : zig (n : Int) = 2 * n := by unfold zig; rw [if_pos h]; omega
    go_enter Try.func27, Try.ntmps27
    go_wp2_with fail
    go_ret
    exact ⟨congrArg (fun x => Ending.returned (Value.int .u64 x)) (by first | omega | (rw [e]; omega)), rfl⟩
  · obtain ⟨n, hn⟩ : ∃ n : Nat, v = -(n : Int) - 1 := ⟨(-v - 1).toNat, by omega⟩
    subst hn
    have e : zig (-(n : Int) - 1) = 2 * n + 1 := by unfold zig; rw [if_neg h]; omega
    have a : -(-(n : Int) - 1 + 1) = (n : Int) := by omega
    go_enter Try.func27, Try.ntmps27
    go_wp2_with fail
    go_ret
    exact ⟨congrArg (fun x => Ending.returned (Value.int .u64 x)) (by first | omega | (rw [e]; omega)), rfl⟩
theorem v_unzigzag (n : Nat) (W : World) (h : n < 18446744073709551616) : Calls Try.prog 23 #[.int .u64 (n : Int)] W (RetSame (.int .i64 (zag n)) W) := by
  by_cases k : n % 2 = 0
  · have e : zag n = (n : Int) / 2 := by unfold zag; rw [if_pos k]; omega
    have k' : (n : Int) % 2 = 0 := by omega
    rw [e]
    go_enter Try.func23, Try.ntmps23
    go_wp2_with fail
    go_ret
    exact ⟨rfl, rfl⟩
  · have e : zag n = -((n : Int) / 2) - 1 := by unfold zag; rw [if_neg k]; omega
    have k' : ¬ (n : Int) % 2 = 0 := by omega
    rw [e]
    go_enter Try.func23, Try.ntmps23
    go_wp2_with fail
    go_ret
    exact ⟨rfl, rfl⟩
theorem v_asigned (A : Option Addr) (c cap : Nat) (s : Int) (l : List Nat) (W : World) (hb : BytesAt W A l) (hc : l.length = c) (hlen : c ≤ 140737488355264) (hs : I64 s) :
    Calls Try.prog 29 #[.slice A c cap, .int .i64 s] W (OwnRet (l ++ encB (zig s)) W) := by
  have hz := zig_lt hs.1 hs.2
  have K1 : Hid (∀ w, Calls Try.prog 27 #[.int .i64 s] w (RetSame (.int .u64 (zig s : Int)) w)) := fun w => v_zigzag s w hs.1 hs.2
  obtain ⟨v, hv⟩ : ∃ v, zig s = v := ⟨_, rfl⟩
  rw [hv] at K1 hz ⊢
  have K2 : Hid (Calls Try.prog 19 #[.slice A c cap, .int .u64 (v : Int)] W (OwnRet (l ++ encB v) W)) := v_append A c cap v l W hb hc hlen hz
  clear hb hc hv hz
  go_enter Try.func29, Try.ntmps29
  go_wp2_with (first
    | (go_at_call 27; (with_reducible refine (K1.out _).mono ?_); rintro e w1 ⟨rfl, rfl⟩)
    | (go_at_call 19; (with_reducible refine (K2.out).mono ?_); rintro e w2 ⟨u, rfl, hO, hE⟩))
  go_ret
  exact ⟨_, rfl, hO, hE⟩
end Go.Proofs.Ythlficnmpgkceaa
