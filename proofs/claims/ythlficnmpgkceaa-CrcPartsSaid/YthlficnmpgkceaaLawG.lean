/- Layer 6: CrcParts. Conditions: the slice reads as bytes. -/
import Derived.Test.YthlficnmpgkceaaLawF
namespace Go.Proofs.Ythlficnmpgkceaa
set_option linter.unusedVariables false
set_option linter.unusedSimpArgs false
open Go Go.RowKit Go.Sort
set_option maxRecDepth 100000 in
set_option maxHeartbeats 8000000 in
theorem law_parts (A : Option Addr) (c cap : Nat) (l : List Nat) (crc n : Nat) (at_ : Int) (W : World) (hb : BytesAt W A l) (hc : l.length = c) (hcap : c ≤ cap) (hcap2 : cap ≤ 140737488351232) (hcrc : crc < 4294967296) (hat : I64 at_) :
    Calls Try.prog 11 #[.slice A c cap, .int .u32 (crc : Int), .int .i64 at_] W (Ret (.bool true) W) := by
  obtain ⟨x, hx⟩ : ∃ x : BitVec 32, x.toNat = crc := ⟨BitVec.ofNat 32 crc, by rw [BitVec.toNat_ofNat]; omega⟩
  subst hx
  have hcc : (c : Int) + 1 ≤ 9223372036854775807 := by omega
  have KM : Hid (∀ w, Calls Try.prog 32 #[.int .i64 at_, .int .i64 ((c : Int) + 1)] w (IntIn (InN ((c : Int) + 1)) .i64 w)) := fun w => (t_mod at_ ((c : Int) + 1) w hat ⟨by omega, by omega⟩).mono fun _ _ q => ⟨_, q.1, modN_in _ _, q.2.symm⟩
  have K1 : Hid (∀ w, Ext W w → Calls Try.prog 42 #[.int .u32 (x.toNat : Int), .slice A c cap] w (Ret (.int .u32 ((crcB x l).toNat : Int)) w)) := fun w e => by subst hc; exact p_update x A cap l w (hb.ext e)
  have KA : Hid (∀ k : Nat, k ≤ c → (∀ w, Ext W w → Calls Try.prog 42 #[.int .u32 (x.toNat : Int), .slice A k cap] w (Ret (.int .u32 ((crcB x (l.take k)).toNat : Int)) w)) ∧ ∃ A2, (∀ w, (Instr.slice 22 (.slice A c cap) (some (.int .i64 (k : Int))) none none).run Try.prog w = .ok (.slice A2 (c - k) (cap - k)) w) ∧ ∀ w, Ext W w → Calls Try.prog 42 #[.int .u32 ((crcB x (l.take k)).toNat : Int), .slice A2 (c - k) (cap - k)] w (Ret (.int .u32 ((crcB x l).toNat : Int)) w)) := fun k hk => by
    refine ⟨fun w e => ?_, _, run_from A c k cap hk, fun w e => ?_⟩
    · have := p_update x A cap (l.take k) w ((hb.take k).ext e)
      rw [List.length_take, Nat.min_eq_left (by omega)] at this
      exact this
    · have := p_update (crcB x (l.take k)) _ (cap - k) (l.drop k) w ((hb.drop k cap (by omega)).ext e)
      rw [List.length_drop, hc, crcB_append, List.take_append_drop] at this
      exact this
  have KK : Hid (∀ w, Calls Try.prog 41 #[] w (Ret (.bool true) w)) := fun w => l_known6 w
  clear hb hc
  go_enter Try.func11, Try.ntmps11
  go_wp2_with fail
  (with_reducible refine (KM.out _).mono ?_)
  rintro e w1 ⟨v, rfl, hv, rfl⟩
  have v0 := hv.1
  have v1 := hv.2.1 (by omega)
  obtain ⟨k, rfl⟩ := Int.eq_ofNat_of_zero_le v0
  have hk : k ≤ c := by omega
  obtain ⟨ka, A2, hs, kb⟩ := KA.out k hk
  have ka := hide ka
  have kb := hide kb
  have hs1 := run_upto A c k cap (by omega)
  clear v0 v1 hv
  go_wp2_with fail
  refine wp_region_quiet_below (by kernel_rfl) (by kernel_rfl) ?_
  repeat (quiet_step (first | with_reducible exact quiet_ret (KK.out _) | with_reducible exact quiet_ret (ka.out _ (ext_regrown _ _ _)) | with_reducible exact quiet_ret (kb.out _ (ext_regrown _ _ _)) | with_reducible exact quiet_ret (K1.out _ (ext_regrown _ _ _))))
  refine wpQuiet_nil ?_
  intro _ hw'
  obtain ⟨⟨dq, osq⟩, hw''⟩ := hw'
  subst hw''
  go_wp2_with fail
  go_ret
  exact ⟨rfl, ext_regrown _ _ _⟩
end Go.Proofs.Ythlficnmpgkceaa
