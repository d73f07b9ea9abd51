/- The laws' sanity check: it returns true. Conditions: the table of the powers of ten lies in the world. -/
import Derived.Test.YtkhlhlldlikleaaDoorForC
import Derived.Test.YtkhlhlldlikleaaDoorDivL
import Derived.Test.YtkhlhlldlikleaaDoorWrdK
namespace Go.Proofs.YtkhlhlldlikleaaDoor
set_option linter.unusedVariables false
set_option linter.unusedSimpArgs false
open Go Go.RowKit Go.Sort Go.Lib
theorem of_fix {z : Int} {s0 : Bool} {a0 b0 c0 d0 : Nat} (hC : IsC s0 a0 b0 c0 d0 z) {e : Ending} {w w' : World} (h : WideOnly z w e w') : e = .returned (.agg #[.bool s0, .int .u64 (a0 : Int), .int .u64 (b0 : Int), .int .u64 (c0 : Int), .int .u64 (d0 : Int)]) ∧ Ext w w' := by
  obtain ⟨s, a, b, c, d, rfl, hC', hE⟩ := h
  obtain ⟨rfl, rfl, rfl, rfl, rfl⟩ := hC.uniq hC'
  exact ⟨rfl, hE⟩
theorem cm3 : IsC true 3 0 0 0 (-3) := ⟨⟨by omega, by omega, by omega, by omega, by simp [mag4, val]⟩, by simp⟩
theorem cm7 : IsC true 7 0 0 0 (-7) := ⟨⟨by omega, by omega, by omega, by omega, by simp [mag4, val]⟩, by simp⟩
theorem cm4 : IsC true 4 0 0 0 (-4) := ⟨⟨by omega, by omega, by omega, by omega, by simp [mag4, val]⟩, by simp⟩
theorem c2 : IsC false 2 0 0 0 2 := ⟨⟨by omega, by omega, by omega, by omega, by simp [mag4, val]⟩, by simp⟩
theorem c1 : IsC false 1 0 0 0 1 := ⟨⟨by omega, by omega, by omega, by omega, by simp [mag4, val]⟩, by simp⟩
theorem cp63 : IsC false 9223372036854775808 0 0 0 9223372036854775808 := ⟨⟨by omega, by omega, by omega, by omega, by simp [mag4, val]⟩, by simp⟩
theorem cbig : IsC true 9223372036854775808 1 0 0 (-27670116110564327424) := ⟨⟨by omega, by omega, by omega, by omega, by simp [mag4, val]⟩, by simp⟩
theorem k_m3 (w : World) : Calls Tryd.prog 13 #[.int .i64 (-3)] w (fun e w' => e = .returned (.agg #[.bool true, .int .u64 3, .int .u64 0, .int .u64 0, .int .u64 0]) ∧ Ext w w') := (p_ofi (-3) w (by omega) (by omega)).mono fun _ _ h => of_fix cm3 h
theorem k_m7 (w : World) : Calls Tryd.prog 13 #[.int .i64 (-7)] w (fun e w' => e = .returned (.agg #[.bool true, .int .u64 7, .int .u64 0, .int .u64 0, .int .u64 0]) ∧ Ext w w') := (p_ofi (-7) w (by omega) (by omega)).mono fun _ _ h => of_fix cm7 h
theorem k_m4 (w : World) : Calls Tryd.prog 13 #[.int .i64 (-4)] w (fun e w' => e = .returned (.agg #[.bool true, .int .u64 4, .int .u64 0, .int .u64 0, .int .u64 0]) ∧ Ext w w') := (p_ofi (-4) w (by omega) (by omega)).mono fun _ _ h => of_fix cm4 h
theorem k_2 (w : World) : Calls Tryd.prog 13 #[.int .i64 2] w (fun e w' => e = .returned (.agg #[.bool false, .int .u64 2, .int .u64 0, .int .u64 0, .int .u64 0]) ∧ Ext w w') := (p_ofi 2 w (by omega) (by omega)).mono fun _ _ h => of_fix c2 h
theorem k_1 (w : World) : Calls Tryd.prog 13 #[.int .i64 1] w (fun e w' => e = .returned (.agg #[.bool false, .int .u64 1, .int .u64 0, .int .u64 0, .int .u64 0]) ∧ Ext w w') := (p_ofi 1 w (by omega) (by omega)).mono fun _ _ h => of_fix c1 h
theorem k_63 (w : World) : Calls Tryd.prog 16 #[.int .u64 9223372036854775808] w (fun e w' => e = .returned (.agg #[.bool false, .int .u64 9223372036854775808, .int .u64 0, .int .u64 0, .int .u64 0]) ∧ Ext w w') := (p_ofu 9223372036854775808 w (by omega)).mono fun _ _ h => of_fix cp63 h
theorem k_mul (w : World) : Calls Tryd.prog 20 #[.agg #[.bool true, .int .u64 3, .int .u64 0, .int .u64 0, .int .u64 0], .agg #[.bool false, .int .u64 9223372036854775808, .int .u64 0, .int .u64 0, .int .u64 0]] w (fun e w' => e = .returned (.tuple #[.agg #[.bool true, .int .u64 9223372036854775808, .int .u64 1, .int .u64 0, .int .u64 0], .bool true]) ∧ Ext w w') :=
  (p_wmul true false 3 0 0 0 9223372036854775808 0 0 0 (-3) 9223372036854775808 w cm3.1 cp63.1).mono fun e w' h => by
    obtain ⟨s, a, b, c, d, o, rfl, ho, hC, hE⟩ := h
    rw [if_pos (by decide), show (-3 : Int) * 9223372036854775808 = -27670116110564327424 by decide] at hC
    obtain ⟨rfl, rfl, rfl, rfl, rfl⟩ := cbig.uniq hC
    have : o = true := ho.trans (by decide)
    subst this
    exact ⟨rfl, hE⟩
theorem k_div (w : World) : Calls Tryd.prog 21 #[.agg #[.bool true, .int .u64 7, .int .u64 0, .int .u64 0, .int .u64 0], .agg #[.bool false, .int .u64 2, .int .u64 0, .int .u64 0, .int .u64 0]] w (fun e w' => e = .returned (.tuple #[.agg #[.bool true, .int .u64 4, .int .u64 0, .int .u64 0, .int .u64 0], .agg #[.bool false, .int .u64 1, .int .u64 0, .int .u64 0, .int .u64 0], .bool true]) ∧ Ext w w') :=
  (p_divMod true false 7 0 0 0 2 0 0 0 (-7) 2 w cm7.1 c2.1).mono fun e w' h => by
    obtain ⟨s, a, b, c, d, s', a', b', c', d', o, rfl, ho, hC, hC', hE⟩ := h
    rw [if_neg (by decide), show (-7 : Int) / 2 = -4 by decide] at hC
    rw [if_neg (by decide), show (-7 : Int) % 2 = 1 by decide] at hC'
    obtain ⟨rfl, rfl, rfl, rfl, rfl⟩ := cm4.uniq hC
    obtain ⟨rfl, rfl, rfl, rfl, rfl⟩ := c1.uniq hC'
    have : o = true := ho.trans (by decide)
    subst this
    exact ⟨rfl, hE⟩
theorem itoa_big : Lib.itoa (-27670116110564327424) = [45, 50, 55, 54, 55, 48, 49, 49, 54, 49, 49, 48, 53, 54, 52, 51, 50, 55, 52, 50, 52] := by
  simp [Lib.itoa, Lib.decDigits]
theorem k_text (w : World) (hT : Tab w) : Calls Tryd.prog 25 #[.agg #[.bool true, .int .u64 9223372036854775808, .int .u64 1, .int .u64 0, .int .u64 0]] w (fun e w' => e = .returned (.string { data := #[45, 50, 55, 54, 55, 48, 49, 49, 54, 49, 49, 48, 53, 54, 52, 51, 50, 55, 52, 50, 52] }) ∧ Ext w w') :=
  (p_text true 9223372036854775808 1 0 0 (-27670116110564327424) w cbig.1 hT).mono fun e w' h => by
    have := h.1
    rw [itoa_big] at this
    exact ⟨this, h.2⟩
theorem k_valid (w : World) : Calls Tryd.prog 32 #[.agg #[.bool true, .int .u64 9223372036854775808, .int .u64 1, .int .u64 0, .int .u64 0]] w (fun e w' => e = .returned (.bool true) ∧ Ext w w') :=
  (p_valid true 9223372036854775808 1 0 0 (-27670116110564327424) w cbig.1).mono fun e w' h => by
    have := h.1
    exact ⟨this, h.2⟩
end Go.Proofs.YtkhlhlldlikleaaDoor
