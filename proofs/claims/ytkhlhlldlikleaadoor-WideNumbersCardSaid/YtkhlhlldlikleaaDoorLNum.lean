/- The law WideNumbers, walked. Conditions: the table of the powers of ten lies in the world. -/
import Derived.Test.YtkhlhlldlikleaaDoorForE
import Derived.Test.YtkhlhlldlikleaaDoorMagF
namespace Go.Proofs.YtkhlhlldlikleaaDoor
set_option linter.unusedVariables false
set_option linter.unusedSimpArgs false
open Go Go.RowKit
theorem eq_same (s : Bool) (a b c d : Int) (w : World) : (binOp .eql 25 (.agg #[.bool s, .int .u64 a, .int .u64 b, .int .u64 c, .int .u64 d]) (.agg #[.bool s, .int .u64 a, .int .u64 b, .int .u64 c, .int .u64 d])).run Tryd.prog w = .ok (.bool true) w := by
  rw [eq5]; simp
def IntOk (k : IntKind) (r : Int) (o : Bool) (w : World) (e : Ending) (w' : World) : Prop := e = .returned (.tuple #[.int k r, .bool o]) ∧ Ext w w'
def Ag (s : Bool) (k : Nat) (w : World) (e : Ending) (w' : World) : Prop := e = .returned (.agg #[.bool s, .int .u64 (k : Int), .int .u64 0, .int .u64 0, .int .u64 0]) ∧ Ext w w'
set_option maxRecDepth 100000 in
set_option maxHeartbeats 4000000 in
theorem num_walk (v : Int) (m k : Nat) (s o : Bool) (r : Int) (w : World) (hT : Tab w)
    (c1 : ∀ w, Calls Tryd.prog 13 #[.int .i64 v] w (Ag s k w)) (c2 : ∀ w, Calls Tryd.prog 17 #[.int .i64 v] w (Ag s k w))
    (c3 : ∀ w, Calls Tryd.prog 16 #[.int .u64 (m : Int)] w (Ag false m w)) (c4 : ∀ w, Calls Tryd.prog 18 #[.int .u64 (m : Int)] w (Ag false m w))
    (c5 : ∀ w, Calls Tryd.prog 14 #[.agg #[.bool s, .int .u64 (k : Int), .int .u64 0, .int .u64 0, .int .u64 0]] w (IntOk .i64 v true w))
    (c6 : ∀ w, Calls Tryd.prog 15 #[.agg #[.bool false, .int .u64 (m : Int), .int .u64 0, .int .u64 0, .int .u64 0]] w (IntOk .u64 m true w))
    (c7 : ∀ w, Calls Tryd.prog 15 #[.agg #[.bool s, .int .u64 (k : Int), .int .u64 0, .int .u64 0, .int .u64 0]] w (IntOk .u64 r o w))
    (ho : decide (0 ≤ v) = o) (hw : o = true → IntKind.u64.wrap v = r) :
    Calls Tryd.prog 4 #[.int .i64 v, .int .u64 (m : Int)] w (BoolRet true w) := by
  have q := eq_same
  cases o
  · have h0 : ¬ (0 ≤ v) := of_decide_eq_false ho
    clear hw h0
    go_enter Tryd.func4, Tryd.ntmps4
    go_upto_region 2 with (first
      | (go_at_call 13; refine (c1 _).mono ?_; rintro e w1 ⟨rfl, E1⟩)
      | (go_at_call 14; refine (c5 _).mono ?_; rintro e w2 ⟨rfl, E2⟩; have E2 := E1.trans E2))
    go_upto_region 3 with (first
      | (go_at_call 16; refine (c3 _).mono ?_; rintro e w3 ⟨rfl, E3⟩; have E3 := E2.trans E3)
      | (go_at_call 15; refine (c6 _).mono ?_; rintro e w4 ⟨rfl, E4⟩; have E4 := E3.trans E4))
    go_upto_region 4 with (first
      | (go_at_call 13; refine (c1 _).mono ?_; rintro e w5 ⟨rfl, E5⟩; have E5 := E4.trans E5)
      | (go_at_call 15; refine (c7 _).mono ?_; rintro e w6 ⟨rfl, E6⟩; have E6 := E5.trans E6))
    go_wp2_with (first
      | (go_at_call 11; refine (p_known _ (by first | exact hT.ext (E6.trans (ext_drew _)) | exact hT.ext E6)).mono ?_; rintro e x1 ⟨rfl, hE⟩; have X1 : Ext w x1 := (by first | exact (E6.trans (ext_drew _)).trans hE | exact E6.trans hE); clear hE)
      | (go_at_call 13; refine (c1 _).mono ?_; rintro e x2 ⟨rfl, hE⟩; have X2 : Ext w x2 := X1.trans hE; clear hE)
      | (go_at_call 17; refine (c2 _).mono ?_; rintro e x3 ⟨rfl, hE⟩; have X3 : Ext w x3 := X2.trans hE; clear hE)
      | (go_at_call 16; refine (c3 _).mono ?_; rintro e x4 ⟨rfl, hE⟩; have X4 : Ext w x4 := X3.trans hE; clear hE)
      | (go_at_call 18; refine (c4 _).mono ?_; rintro e x5 ⟨rfl, hE⟩; have X5 : Ext w x5 := X4.trans hE; clear hE))
    all_goals go_ret
    all_goals exact ⟨rfl, X5⟩
  · have hw := hw rfl
    go_enter Tryd.func4, Tryd.ntmps4
    go_upto_region 2 with (first
      | (go_at_call 13; refine (c1 _).mono ?_; rintro e w1 ⟨rfl, E1⟩)
      | (go_at_call 14; refine (c5 _).mono ?_; rintro e w2 ⟨rfl, E2⟩; have E2 := E1.trans E2))
    go_upto_region 3 with (first
      | (go_at_call 16; refine (c3 _).mono ?_; rintro e w3 ⟨rfl, E3⟩; have E3 := E2.trans E3)
      | (go_at_call 15; refine (c6 _).mono ?_; rintro e w4 ⟨rfl, E4⟩; have E4 := E3.trans E4))
    go_upto_region 4 with (first
      | (go_at_call 13; refine (c1 _).mono ?_; rintro e w5 ⟨rfl, E5⟩; have E5 := E4.trans E5)
      | (go_at_call 15; refine (c7 _).mono ?_; rintro e w6 ⟨rfl, E6⟩; have E6 := E5.trans E6))
    go_wp2_with (first
      | (go_at_call 11; refine (p_known _ (by first | exact hT.ext (E6.trans (ext_drew _)) | exact hT.ext E6)).mono ?_; rintro e x1 ⟨rfl, hE⟩; have X1 : Ext w x1 := (by first | exact (E6.trans (ext_drew _)).trans hE | exact E6.trans hE); clear hE)
      | (go_at_call 13; refine (c1 _).mono ?_; rintro e x2 ⟨rfl, hE⟩; have X2 : Ext w x2 := X1.trans hE; clear hE)
      | (go_at_call 17; refine (c2 _).mono ?_; rintro e x3 ⟨rfl, hE⟩; have X3 : Ext w x3 := X2.trans hE; clear hE)
      | (go_at_call 16; refine (c3 _).mono ?_; rintro e x4 ⟨rfl, hE⟩; have X4 : Ext w x4 := X3.trans hE; clear hE)
      | (go_at_call 18; refine (c4 _).mono ?_; rintro e x5 ⟨rfl, hE⟩; have X5 : Ext w x5 := X4.trans hE; clear hE))
    all_goals go_ret
    all_goals exact ⟨rfl, X5⟩
theorem law_numbers (v n : Int) (w : World) (hv : I64 v) (hn : U64 n) (hT : Tab w) :
    Calls Tryd.prog 4 #[.int .i64 v, .int .u64 n] w (BoolRet true w) := by
  obtain ⟨v1, v2⟩ := hv
  obtain ⟨n1, n2⟩ := hn
  obtain ⟨m, rfl⟩ : ∃ m : Nat, n = m := ⟨n.toNat, by omega⟩
  have hm : m < 18446744073709551616 := by omega
  have hk : IsC (decide (v < 0)) v.natAbs 0 0 0 v := ⟨⟨by omega, by omega, by omega, by omega, by simp [mag4, val]; split <;> omega⟩, by simp; omega⟩
  have hc : IsC false m 0 0 0 m := ⟨⟨hm, by omega, by omega, by omega, by simp [mag4, val]⟩, by simp⟩
  refine num_walk v m v.natAbs (decide (v < 0)) (decide (0 ≤ v)) (if 0 ≤ v then v else 0) w hT
    (fun w => (p_ofi v w v1 v2).mono fun _ _ h => of_fix hk h) (fun w => (ref_ofi v w v1 v2).mono fun _ _ h => of_fix hk h)
    (fun w => (p_ofu m w hm).mono fun _ _ h => of_fix hc h) (fun w => (ref_ofu m w hm).mono fun _ _ h => of_fix hc h)
    (fun w => (p_int64 _ _ 0 0 0 v w hk.1).mono fun e w' h => ?_) (fun w => (p_unsigned _ _ 0 0 0 m w hc.1).mono fun e w' h => ?_) (fun w => (p_unsigned _ _ 0 0 0 v w hk.1).mono fun e w' h => ?_) rfl (fun h => ?_)
  · rw [if_pos ⟨v1, v2⟩, decide_eq_true (p := _ ∧ _) ⟨v1, v2⟩] at h
    exact h
  · have hx : (0 : Int) ≤ m ∧ (m : Int) < 18446744073709551616 := by omega
    rw [if_pos hx, decide_eq_true hx] at h
    exact h
  · by_cases h0 : 0 ≤ v
    · have hx : 0 ≤ v ∧ v < 18446744073709551616 := by omega
      rw [if_pos hx, decide_eq_true hx] at h
      rw [if_pos h0, decide_eq_true h0]
      exact h
    · have hx : ¬ (0 ≤ v ∧ v < 18446744073709551616) := by omega
      rw [if_neg hx, decide_eq_false hx] at h
      rw [if_neg h0, decide_eq_false h0]
      exact h
  · have h0 : 0 ≤ v := of_decide_eq_true h
    rw [if_pos h0, IntKind.wrap_u64]
    omega
end Go.Proofs.YtkhlhlldlikleaaDoor
