/- Layer 9: NumbersForms. Conditions: the slices read as numbers. -/
import Derived.Test.YtnmkmjfehgmlkaaNmL
import Derived.Test.YtnmkmjfehgmlkaaBpk2
namespace Go.Proofs.Ytnmkmjfehgmlkaa
set_option linter.unusedVariables false
set_option linter.unusedSimpArgs false
open Go Go.RowKit
set_option maxRecDepth 100000 in
set_option maxHeartbeats 3200000 in
theorem law_nforms (A : Option Addr) (n c : Nat) (l : List Nat) (y : Option Addr) (len cap4 : Nat) (W : World) (hl : WordsAt W A l) (hn : l.length = n) (hL : IsList W y len cap4) :
    Calls Try.prog 3 #[.slice A n c, .slice y len cap4] W (Ret (.bool true) W) := by
  have KN : Hid (Calls Try.prog 9 #[.slice y len cap4] W (NewPost W)) := t_new W y len cap4 hL
  have KL := hide (fun w h => l_list9 W.heap.size W.heap.size w h)
  have KK := hide (fun w => l_known9 w)
  have HL := hide hl
  have Hn := hide hn
  clear hL hl hn
  go_enter Try.func3, Try.ntmps3
  go_upto_region 2 with (first
    | (go_at_call 9; (with_reducible refine (KN.out).mono ?_); rintro e w1 ⟨rfl, hT, hE⟩; have T1 := hide hT; have E1 := hide hE; have kl := hide (KL.out w1 hT); clear hT hE)
    | (go_at_call 8; (with_reducible refine (kl.out).mono ?_); rintro e w2 ⟨Am, nm, capm, m, rfl, hnm, hn24, hncap, hO, hT2, hU2⟩; have S2 := hide (Bs.of E1.out T1.out rfl hO hT2 hU2); clear hO hT2 hU2 hncap))
  have Q3 := Blk.new w2 22 #[.slice A n c, .slice Am nm capm]
  have S3 := hide (S2.out.ext (ext_alloc w2 (.cells #[.slice A n c, .slice Am nm capm] 22)))
  obtain ⟨w3, hw3⟩ : ∃ w, w2.alloc (.cells #[.slice A n c, .slice Am nm capm] 22) = w := ⟨_, rfl⟩
  rw [hw3] at Q3 S3 ⊢
  obtain ⟨g, hg⟩ : ∃ q, w2.heap.size = q := ⟨_, rfl⟩
  rw [hg] at Q3 ⊢
  obtain ⟨B, hB⟩ : ∃ B, w1.heap.size = B := ⟨_, rfl⟩
  rw [hB] at S3
  have Q3 := hide Q3
  have KF : Hid (∀ (A : Option Addr) (n c : Nat) (l : List Nat), l.length = n → ∃ z ze : Nat, ∃ q : List Nat,
      (∀ w, WordsAt w A l → Calls Try.prog 10 #[.slice A n c] w (fun e w' => ∃ A3 c3, e = .returned (.tuple #[.slice A3 z c3, .int .i64 (ze : Int)]) ∧ BytesAt w' A3 q ∧ Ext w w')) ∧
      (∀ w, WordsAt w A l → Calls Try.prog 11 #[.slice A n c] w (fun e w' => ∃ A3 c3, e = .returned (.tuple #[.slice A3 z c3, .int .i64 (ze : Int)]) ∧ BytesAt w' A3 q ∧ Ext w w')) ∧
      (∀ A1 c1 A2 c2 w, BytesAt w A1 q → BytesAt w A2 q → Calls Try.prog 12 #[.slice A1 z c1, .slice A2 z c2] w (Ret (.bool true) w))) := hide (fun A n c l hn => by
    refine ⟨(enN l).1.length, (enN l).2, (enN l).1, fun w h => (p_encN A n c l w h hn).mono fun e w' h => ?_, fun w h => (r_encN A n c l w h hn).mono fun e w' h => ?_, fun A1 c1 A2 c2 w h1 h2 => r_same A1 A2 _ _ c1 c2 _ _ w h1 h2 rfl rfl true (by simp)⟩
    · obtain ⟨A3, c3, rfl, _, _, _, hb, hE⟩ := h.parts
      exact ⟨A3, c3, rfl, hb, hE⟩
    · obtain ⟨A3, c3, rfl, _, _, _, hb, hE⟩ := h.parts
      exact ⟨A3, c3, rfl, hb, hE⟩)
  have Hnm := hide hnm
  clear hw3 hg hB KN KL kl T1 E1 S2 hnm
  go_wp2_with fail
  go_loopw [6] (fun iv wr => (iv = .int .i64 0 ∨ iv = .int .i64 1 ∨ iv = .int .i64 2) ∧ Hid (Blk wr g 22 #[.slice A n c, .slice Am nm capm]) ∧ Hid (Bs W B Am nm capm m wr)) (fun iv _ => 2 - (intOf iv).toNat)
  case atStart => exact ⟨Or.inl rfl, Q3, S3⟩
  case round =>
    clear Q3 S3
    obtain ⟨hi, HQ, HS⟩ := hrel
    have HW := hide (HL.out.ext HS.out.e)
    have c0 : wr.cell? ⟨g, 0, none⟩ = some (.slice A n c) := HQ.out.cell 0
    have c1' : wr.cell? ⟨g, 1, none⟩ = some (.slice Am nm capm) := HQ.out.cell 1
    rcases hi with rfl | rfl | rfl
    · obtain ⟨z, ze, q, K1, K2, K3⟩ := KF.out A n c l Hn.out
      have K1 := hide (K1 wr HW.out)
      have K2 := hide (fun w h => K2 w h)
      have K3 := hide (fun A1 c1 A2 c2 w h1 h2 => K3 A1 c1 A2 c2 w h1 h2)
      have de : ((ze : Int) != (ze : Int)) = false := by simp
      go_wp2_with (first
        | (go_at_call 10; (with_reducible refine (K1.out).mono ?_); rintro e w4 ⟨A4, c4, rfl, hb4, hE4⟩; have k2 := hide (K2.out w4 (HW.out.ext hE4)); have b4 := hide hb4; have S4 := hide (HS.out.ext hE4); have Q4 := hide (HQ.out.ext hE4); have d0 : w4.cell? ⟨g, 0, none⟩ = some (.slice A n c) := Q4.out.cell 0; clear hb4 hE4)
        | (go_at_call 11; (with_reducible refine (k2.out).mono ?_); rintro e w5 ⟨A5, c5, rfl, hb5, hE5⟩; have k3 := hide (K3.out A4 c4 A5 c5 w5 (b4.out.ext hE5) hb5); have S5 := hide (S4.out.ext hE5); have Q5 := hide (Q4.out.ext hE5); clear hb5 hE5)
        | (go_at_call 12; (with_reducible refine (k3.out).mono ?_); rintro e w6 ⟨rfl, hE6⟩; have S6 := hide (S5.out.ext hE6); have Q6 := hide (Q5.out.ext hE6); clear hE6))
      go_roundw
      case rel => exact ⟨Or.inr (Or.inl rfl), Q6, S6⟩
      case measure => decide
    · obtain ⟨z, ze, q, K1, K2, K3⟩ := KF.out Am nm capm m Hnm.out
      have K1 := hide (K1 wr HS.out.words)
      have K2 := hide (fun w h => K2 w h)
      have K3 := hide (fun A1 c1 A2 c2 w h1 h2 => K3 A1 c1 A2 c2 w h1 h2)
      have de : ((ze : Int) != (ze : Int)) = false := by simp
      go_wp2_with (first
        | (go_at_call 10; (with_reducible refine (K1.out).mono ?_); rintro e w4 ⟨A4, c4, rfl, hb4, hE4⟩; have S4 := hide (HS.out.ext hE4); have k2 := hide (K2.out w4 S4.out.words); have b4 := hide hb4; have Q4 := hide (HQ.out.ext hE4); have d0 : w4.cell? ⟨g, 1, none⟩ = some (.slice Am nm capm) := Q4.out.cell 1; clear hb4 hE4)
        | (go_at_call 11; (with_reducible refine (k2.out).mono ?_); rintro e w5 ⟨A5, c5, rfl, hb5, hE5⟩; have k3 := hide (K3.out A4 c4 A5 c5 w5 (b4.out.ext hE5) hb5); have S5 := hide (S4.out.ext hE5); have Q5 := hide (Q4.out.ext hE5); clear hb5 hE5)
        | (go_at_call 12; (with_reducible refine (k3.out).mono ?_); rintro e w6 ⟨rfl, hE6⟩; have S6 := hide (S5.out.ext hE6); have Q6 := hide (Q5.out.ext hE6); clear hE6))
      go_roundw
      case rel => exact ⟨Or.inr (Or.inr rfl), Q6, S6⟩
      case measure => decide
    · go_wp2_with (go_at_call 13; (with_reducible refine (KK.out _).mono ?_); rintro e w7 ⟨rfl, hE7⟩; have S7 := hide (HS.out.ext hE7); clear hE7)
      go_ret
      exact ⟨rfl, S7.out.e⟩
end Go.Proofs.Ytnmkmjfehgmlkaa
