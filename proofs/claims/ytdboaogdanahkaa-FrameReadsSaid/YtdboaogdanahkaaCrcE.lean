/- CRC-32C: Check of the program. Conditions: the slice reads as bytes. -/
import Derived.Test.YtdboaogdanahkaaCrcD
import Derived.Test.YtdboaogdanahkaaByB
import Derived.Test.YtdboaogdanahkaaBase
namespace Go.Proofs.Ytdboaogdanahkaa
set_option linter.unusedVariables false
set_option linter.unusedSimpArgs false
open Go Go.RowKit
def chk (l : List Nat) : Bool := decide (4 ≤ l.length) && decide (l.drop (l.length - 4) = tailL (crcB 0#32 (l.take (l.length - 4))))
set_option maxRecDepth 100000 in
theorem p_check_short (A : Option Addr) (cap n : Nat) (W : World) (h : n < 4) : Calls Try.prog 83 #[.slice A n cap] W (Ret (.bool false) W) := by
  have h1 : ¬ (4 : Int) ≤ (n : Int) := by omega
  have h2 : decide ((4 : Int) ≤ (n : Int)) = false := decide_eq_false h1
  have h3 : decide ((0 : Int) ≤ (n : Int) - 4) = false := decide_eq_false (by omega)
  go_enter Try.func83, Try.ntmps83
  go_wp2_with fail
  go_quiet (fail)
  go_wp2_with fail
  go_ret
  exact ⟨rfl, ext_drewN _ _⟩
set_option maxRecDepth 100000 in
set_option maxHeartbeats 8000000 in
theorem p_check_long (A : Option Addr) (cap k : Nat) (l : List Nat) (W : World) (h : BytesAt W A l) (hk : l.length = k + 4) (hcap : l.length ≤ cap) (v : Bool) (hv : decide (l.drop k = tailL (crcB 0#32 (l.take k))) = v) : Calls Try.prog 83 #[.slice A (k + 4) cap] W (Ret (.bool v) W) := by
  have hlen := h.2.1
  have h2 : decide ((0 : Int) ≤ (k : Int)) = true := decide_eq_true (by omega)
  have ek : ((k + 4 : Nat) : Int) - 4 = (k : Int) := by omega
  have hs1 := run_upto A (k + 4) k cap (by omega)
  have hs2 := run_from A (k + 4) k cap (by omega)
  have hd := hide (h.drop k cap hcap)
  have ht := hide (h.take k)
  obtain ⟨A2, hA2⟩ : ∃ A2, (if cap = k then A else A.map (·.add (k * 1))) = A2 := ⟨_, rfl⟩
  rw [hA2] at hs2 hd
  rw [show k + 4 - k = 4 by omega] at hs2
  obtain ⟨c2, hc2⟩ : ∃ c2, cap - k = c2 := ⟨_, rfl⟩
  rw [hc2] at hs2
  have KS : Hid (∀ w, Ext W w → Calls Try.prog 79 #[.slice A k cap] w (CrcRet (crcB 0#32 (l.take k)) w)) := fun w e => by
    have := p_sum A cap (l.take k) w (ht.out.ext e)
    rw [List.length_take, Nat.min_eq_left (by omega)] at this
    exact this
  obtain ⟨x, hx⟩ : ∃ x, crcB 0#32 (l.take k) = x := ⟨_, rfl⟩
  rw [hx] at KS hv
  have KE : Hid (∀ w v' , Ext W w → OwnB W.heap.size w v' (tailL x) → ∃ A' c', v' = .slice A' 4 c' ∧ Calls Try.prog 99 #[.slice A2 4 c2, .slice A' 4 c'] w (RetSame (.bool v) w)) := fun w v' e o => by
    obtain ⟨A', c', rfl, _, _, hb⟩ := o.at_
    refine ⟨A', c', rfl, p_equal A2 A' 4 4 c2 c' (l.drop k) (tailL x) w (hd.out.ext e) hb (by rw [List.length_drop]; omega) rfl v hv⟩
  rw [hk] at hlen
  clear hA2 hc2 hx hv hd ht h hk hcap ek
  go_enter Try.func83, Try.ntmps83
  go_wp2_with fail
  go_region_with (first
    | (go_at_call 79; (with_reducible refine (KS.out _ (by first | exact Ext.refl _ | exact ext_drew _ | exact ext_drewN _ _)).mono ?_); rintro e w1 ⟨rfl, hE⟩)
    | (go_at_call 78; (with_reducible refine (p_tail _ _).mono ?_); rintro e w2 ⟨v', rfl, hO, hE2⟩; obtain ⟨A', c', rfl, ke⟩ := KE.out _ v' (by first | exact ((ext_drew _).trans hE).trans hE2 | exact ((ext_drewN _ _).trans hE).trans hE2 | exact hE.trans hE2) (hO.less (by first | exact ((ext_drew _).trans hE).size | exact hE.size)); have ke := hide ke; clear hO)
    | (go_at_call 99; (with_reducible refine (ke.out).mono ?_); rintro e w3 ⟨rfl, rfl⟩))
  all_goals go_wp2_with fail
  all_goals go_ret
  all_goals exact ⟨rfl, by first | exact ((ext_drew _).trans hE).trans hE2 | exact ((ext_drewN _ _).trans hE).trans hE2 | exact hE.trans hE2⟩
end Go.Proofs.Ytdboaogdanahkaa
