/- The program's AppendSigned, ReadSigned; the laws' sanity check. Conditions: the slices read as bytes. -/
import Derived.Test.YtdboaogdanahkaaVarF
import Derived.Test.YtdboaogdanahkaaConA
namespace Go.Proofs.Ytdboaogdanahkaa
set_option linter.unusedVariables false
set_option linter.unusedSimpArgs false
open Go Go.RowKit
/-- What ReadSigned returns, of what Read returns. -/
def rdS (l : List Nat) (at_ : Int) : Int × Int × Int := (zag (rdV l at_).1.toNat, (rdV l at_).2.1, (rdV l at_).2.2)
theorem rdV_nat (l : List Nat) (at_ : Int) : ∃ v : Nat, (rdV l at_).1 = (v : Int) ∧ v < 18446744073709551616 := by
  unfold rdV
  cases hg : rdG l at_ 64 10 with
  | none => exact ⟨0, rfl, by omega⟩
  | some g =>
    obtain ⟨a, _, _, _, hs, hk⟩ := bhd_some hg
    exact ⟨decB g, rfl, decB_ok hs hk⟩
theorem p_rsigned (A : Option Addr) (c cap : Nat) (l : List Nat) (at_ : Int) (W : World) (hb : BytesAt W A l) (hc : l.length = c) (hcap : c ≤ cap) (hcap2 : c ≤ 4611686018427387904) (hat : I64 at_) (r1 r2 r3 : Int) (hr : rdS l at_ = (r1, r2, r3)) :
    Calls Try.prog 44 #[.slice A c cap, .int .i64 at_] W (RetSame (.tuple #[.int .i64 r1, .int .i64 r2, .int .i64 r3]) W) := by
  obtain ⟨v, hv, hv2⟩ := rdV_nat l at_
  unfold rdS at hr
  obtain ⟨h1, h2⟩ := Prod.mk.inj hr
  obtain ⟨h2, h3⟩ := Prod.mk.inj h2
  rw [hv, Int.toNat_natCast] at h1
  have K1 : Hid (Calls Try.prog 20 #[.slice A c cap, .int .i64 at_] W (RetSame (.tuple #[.int .u64 (v : Int), .int .i64 r2, .int .i64 r3]) W)) := p_read A c cap l at_ W hb hc hcap hcap2 hat _ _ _ (Prod.ext hv (Prod.ext h2 h3))
  have K2 : Hid (∀ w, Calls Try.prog 72 #[.int .u64 (v : Int)] w (RetSame (.int .i64 r1) w)) := fun w => by rw [← h1]; exact p_unzigzag v w hv2
  clear hr h1 h2 h3 hv hb hc
  go_enter Try.func44, Try.ntmps44
  go_wp2_with (first
    | (go_at_call 20; (with_reducible refine (K1.out).mono ?_); rintro e w1 ⟨rfl, rfl⟩)
    | (go_at_call 72; (with_reducible refine (K2.out _).mono ?_); rintro e w2 ⟨rfl, rfl⟩))
  go_ret3
  exact ⟨rfl, rfl⟩
set_option maxRecDepth 100000 in
theorem l_known5 (W : World) : Calls Try.prog 17 #[] W (Ret (.bool true) W) := by
  have hb := one_at W 9 (by omega) (.int .u8 9) rfl
  have e1 : encB 300 = [172, 2] := by rw [encB_big (by omega), encB_small (by omega)]
  have KA : Hid (Calls Try.prog 22 #[.slice (some ⟨W.heap.size, 0, none⟩) 1 1, .int .u64 300] (W.alloc (.cells #[.int .u8 9] 5)) (OwnRet [9, 172, 2] (W.alloc (.cells #[.int .u8 9] 5)))) := by
    have := p_vappend (some ⟨W.heap.size, 0, none⟩) 1 1 300 [9] _ hb rfl (by omega) (by omega)
    rw [e1] at this
    exact this
  have hrd : rdV [9, 172, 2] 1 = (300, 3, 0) := by
    have hg : rdG [9, 172, 2] 1 64 10 = some [172, 2] := by decide +kernel
    unfold rdV
    rw [hg]
    rfl
  have KR : Hid (∀ w A cap, BytesAt w A [9, 172, 2] → 3 ≤ cap → Calls Try.prog 20 #[.slice A 3 cap, .int .i64 1] w (RetSame (.tuple #[.int .u64 300, .int .i64 3, .int .i64 0]) w)) := fun w A cap h hc => p_read A 3 cap _ 1 w h rfl hc (by omega) ⟨by omega, by omega⟩ _ _ _ hrd
  have KZ : Hid (∀ w, Calls Try.prog 41 #[.int .i64 (-1)] w (RetSame (.int .u64 1) w)) := fun w => p_zigzag (-1) w (by omega) (by omega)
  have KS : Hid (∀ w, Calls Try.prog 42 #[.int .u64 128] w (RetSame (.int .i64 2) w)) := fun w => by
    have := p_size 128 w (by omega)
    have e : (encB 128).length = 2 := by rw [encB_big (by omega), encB_small (by omega)]; rfl
    rw [e] at this
    exact this
  clear hb e1 hrd
  go_enter Try.func17, Try.ntmps17
  go_wp2_with (first
    | (go_at_call 22; (with_reducible refine (KA.out).mono ?_); rintro e w1 ⟨v, rfl, hO, hE⟩; obtain ⟨A', cap', hv, hc1, hc2, hbb⟩ := hO.at_; have hv : v = .slice A' 3 cap' := hv; subst hv; have hc1 : 3 ≤ cap' := hc1; have kr := hide (KR.out w1 A' cap' hbb hc1); clear hO hbb)
    | (go_at_call 20; (with_reducible refine (kr.out).mono ?_); rintro e w4 ⟨rfl, rfl⟩)
    | (go_at_call 41; (with_reducible refine (KZ.out _).mono ?_); rintro e w2 ⟨rfl, rfl⟩)
    | (go_at_call 42; (with_reducible refine (KS.out _).mono ?_); rintro e w3 ⟨rfl, rfl⟩))
  go_ret
  exact ⟨rfl, (ext_alloc _ _).trans hE⟩
end Go.Proofs.Ytdboaogdanahkaa
