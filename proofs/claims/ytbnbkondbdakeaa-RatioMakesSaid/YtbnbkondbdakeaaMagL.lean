/- Int64 of the reference of layer 2. Conditions: the cells stand for a number. -/
import Derived.Test.YtbnbkondbdakeaaMagK
namespace Go.Proofs.Ytbnbkondbdakeaa
set_option linter.unusedVariables false
set_option linter.unusedSimpArgs false
open Go Go.RowKit


set_option maxRecDepth 100000 in
set_option maxHeartbeats 4000000 in
theorem ref_int64 (s : Bool) (a b c d : Nat) (z : Int) (w : World) (h : IsW s a b c d z) :
    Calls Try.prog 32 #[.agg #[.bool s, .int .u64 (a : Int), .int .u64 (b : Int), .int .u64 (c : Int), .int .u64 (d : Int)]] w (PairRet .i64 (if -9223372036854775808 ≤ z ∧ z ≤ 9223372036854775807 then z else 0) (decide (-9223372036854775808 ≤ z ∧ z ≤ 9223372036854775807)) w) := by
  obtain ⟨r, hr⟩ : ∃ r, (if -9223372036854775808 ≤ z ∧ z ≤ 9223372036854775807 then z else 0) = r := ⟨_, rfl⟩
  obtain ⟨o, ho⟩ : ∃ o, decide (-9223372036854775808 ≤ z ∧ z ≤ 9223372036854775807) = o := ⟨_, rfl⟩
  rw [hr, ho]
  have HR := hide hr
  have HO := hide ho
  clear hr ho
  have HX := hide (ext_alloc w (.cells #[.bool s, .int .u64 (a : Int), .int .u64 (b : Int), .int .u64 (c : Int), .int .u64 (d : Int)] 25))
  have B0 := hide (show Box (w.alloc (.cells #[.bool s, .int .u64 (a : Int), .int .u64 (b : Int), .int .u64 (c : Int), .int .u64 (d : Int)] 25)) w.heap.size s a b c d from heap_alloc_new w _)
  go_enter Try.func32, Try.ntmps32
  go_upto_region 1 with fail
  go_cut [] (fun wx => ∃ (s : Bool) (a b c d : Nat), IsC s a b c d z ∧ Box wx w.heap.size s a b c d ∧ Ext w wx)
  case first =>
    go_wp2_with (go_at_call 84; refine (ref_clean s a b c d z _ h).mono ?_; rintro e' w' ⟨s', a', b', c', d', rfl, hC, hE⟩; have R0 := B0.out.ext hE; have E1 := HX.out.trans hE; obtain ⟨c0, c1, c2, c3, c4, f0, f1, f2, f3, f4⟩ := five_cells R0)
    go_meet
    exact ⟨s', a', b', c', d', hC, R0.put, ext_five E1 (Nat.le_refl _) _ _ _ _ _⟩
  case rest =>
    clear B0 HX h
    obtain ⟨s, a, b, c, d, hC, B0, E0⟩ := hcut
    obtain ⟨ha, hb, hc, hd, hz⟩ := hC.1
    have hs := hC.2
    obtain ⟨n, hn⟩ : ∃ n, mag4 a b c d = n := ⟨_, rfl⟩
    obtain ⟨L, hL⟩ : ∃ L, (limbs n).length = L := ⟨_, rfl⟩
    have hL1 : L ≤ 1 ↔ n < 18446744073709551616 := by rw [← hL]; exact limbs_len_le
    rw [hn] at hz
    have hl0 : L = 0 ↔ n = 0 := by rw [← hL, List.length_eq_zero_iff, limbs_nil]
    have hg0 : ∀ h : 0 < (limbs n).length, (limbs n)[0] = n % 18446744073709551616 := by
      intro h
      have := limbs_getD n 0
      simpa [List.getD, h] using this
    have HG := hide hg0
    have MX := hide hn
    have HL := hide hL
    clear hn hL hg0
    have hcase : (L = 0 ∧ z = 0) ∨ (1 < L ∧ ¬ (-9223372036854775808 ≤ z ∧ z ≤ 9223372036854775807)) ∨ (L = 1 ∧ n < 18446744073709551616 ∧ s = true ∧ n ≤ 9223372036854775808 ∧ z = -(n : Int)) ∨ (L = 1 ∧ n < 18446744073709551616 ∧ s = true ∧ 9223372036854775808 < n ∧ z = -(n : Int)) ∨
        (L = 1 ∧ n < 18446744073709551616 ∧ s = false ∧ n < 9223372036854775808 ∧ z = n) ∨ (L = 1 ∧ n < 18446744073709551616 ∧ s = false ∧ 9223372036854775808 ≤ n ∧ z = n) := by
      cases s <;> simp at hz hs <;> simp <;> omega
    clear hz hs hl0 hL1 hC
    obtain ⟨c0, c1, c2, c3, c4, f0, f1, f2, f3, f4⟩ := five_cells B0
    rcases hcase with ⟨rfl, h1⟩ | ⟨h0, h1⟩ | ⟨rfl, h0, rfl, h1, h2⟩ | ⟨rfl, h0, rfl, h1, h2⟩ | ⟨rfl, h0, rfl, h1, h2⟩ | ⟨rfl, h0, rfl, h1, h2⟩
    · have HH := hide h1
      clear h1
      go_wp2_with (go_at_call 85; refine (of_any w.heap.size _ a b c d _ E0.size ha hb hc hd).mono ?_; rintro e' w' ⟨v, rfl, hv, hE⟩; rw [MX.out] at hv; obtain ⟨a3, c3', rfl, _, _, _⟩ := hv.shape 0 HL.out; have R0 := B0.ext hE; have E1 := E0.trans hE; obtain ⟨c0, c1, c2, c3, c4, f0, f1, f2, f3, f4⟩ := five_cells R0)
      all_goals go_ret2
      all_goals exact ⟨rb2' (by rw [← HR.out, HH.out]; simp) (by rw [← HO.out, HH.out]; simp), E1⟩
    · have HH := hide h1
      clear h1
      go_wp2_with (go_at_call 85; refine (of_any w.heap.size _ a b c d _ E0.size ha hb hc hd).mono ?_; rintro e' w' ⟨v, rfl, hv, hE⟩; rw [MX.out] at hv; obtain ⟨a3, c3', rfl, _, _, _⟩ := hv.shape L HL.out; have R0 := B0.ext hE; have E1 := E0.trans hE; obtain ⟨c0, c1, c2, c3, c4, f0, f1, f2, f3, f4⟩ := five_cells R0)
      all_goals go_ret2
      all_goals exact ⟨rb2' (by rw [← HR.out, if_neg HH.out]) (by rw [← HO.out, decide_eq_false HH.out]), E1⟩
    · have HH := hide (And.intro h1 h2)
      have hI : (n : Int) ≤ 9223372036854775808 := by omega
      clear h2 h1
      have HN : Hid (∀ h : 0 < (limbs n).length, (limbs n)[0] = n) := fun h => by rw [HG.out h, Nat.mod_eq_of_lt h0]
      go_wp2_with (go_at_call 85; refine (of_any w.heap.size _ a b c d _ E0.size ha hb hc hd).mono ?_; rintro e' w' ⟨v, rfl, hv, hE⟩; rw [MX.out] at hv; have hcell := hv; obtain ⟨a3, c3', rfl, _, _, _⟩ := hv.shape 1 HL.out; have hk := hcell.at 0 (by rw [HL.out]; omega); rw [HN.out (by rw [HL.out]; omega)] at hk; obtain ⟨gg, rfl, _, _, cx, _⟩ := hk; have R0 := B0.ext hE; have E1 := E0.trans hE; obtain ⟨c0, c1, c2, c3, c4, f0, f1, f2, f3, f4⟩ := five_cells R0)
      all_goals go_ret2
      all_goals exact ⟨rb2' (by rw [← HR.out, HH.out.2]; have := HH.out.1; rw [if_pos (by omega)]; simp only [wrap64, IntKind.wrap_u64]; omega) (by rw [← HO.out, HH.out.2]; have := HH.out.1; simp; omega), E1⟩
    · have HH := hide (And.intro h1 h2)
      have hI : (9223372036854775809 : Int) ≤ (n : Int) := by omega
      clear h2 h1
      have HN : Hid (∀ h : 0 < (limbs n).length, (limbs n)[0] = n) := fun h => by rw [HG.out h, Nat.mod_eq_of_lt h0]
      go_wp2_with (go_at_call 85; refine (of_any w.heap.size _ a b c d _ E0.size ha hb hc hd).mono ?_; rintro e' w' ⟨v, rfl, hv, hE⟩; rw [MX.out] at hv; have hcell := hv; obtain ⟨a3, c3', rfl, _, _, _⟩ := hv.shape 1 HL.out; have hk := hcell.at 0 (by rw [HL.out]; omega); rw [HN.out (by rw [HL.out]; omega)] at hk; obtain ⟨gg, rfl, _, _, cx, _⟩ := hk; have R0 := B0.ext hE; have E1 := E0.trans hE; obtain ⟨c0, c1, c2, c3, c4, f0, f1, f2, f3, f4⟩ := five_cells R0)
      all_goals go_ret2
      all_goals exact ⟨rb2' (by rw [← HR.out, HH.out.2]; have := HH.out.1; rw [if_neg (by omega)]) (by rw [← HO.out, HH.out.2]; have := HH.out.1; simp; omega), E1⟩
    · have HH := hide (And.intro h1 h2)
      have hI : decide ((9223372036854775808 : Int) ≤ (n : Int)) = false := by simp; omega
      clear h2 h1
      have HN : Hid (∀ h : 0 < (limbs n).length, (limbs n)[0] = n) := fun h => by rw [HG.out h, Nat.mod_eq_of_lt h0]
      go_wp2_with (go_at_call 85; refine (of_any w.heap.size _ a b c d _ E0.size ha hb hc hd).mono ?_; rintro e' w' ⟨v, rfl, hv, hE⟩; rw [MX.out] at hv; have hcell := hv; obtain ⟨a3, c3', rfl, _, _, _⟩ := hv.shape 1 HL.out; have hk := hcell.at 0 (by rw [HL.out]; omega); rw [HN.out (by rw [HL.out]; omega)] at hk; obtain ⟨gg, rfl, _, _, cx, _⟩ := hk; have R0 := B0.ext hE; have E1 := E0.trans hE; obtain ⟨c0, c1, c2, c3, c4, f0, f1, f2, f3, f4⟩ := five_cells R0)
      all_goals go_ret2
      all_goals exact ⟨rb2' (by rw [← HR.out, HH.out.2]; have := HH.out.1; rw [if_pos (by omega)]; simp only [wrap64]; omega) (by rw [← HO.out, HH.out.2]; have := HH.out.1; simp; omega), E1⟩
    · have HH := hide (And.intro h1 h2)
      have hI : (9223372036854775808 : Int) ≤ (n : Int) := by omega
      clear h2 h1
      have HN : Hid (∀ h : 0 < (limbs n).length, (limbs n)[0] = n) := fun h => by rw [HG.out h, Nat.mod_eq_of_lt h0]
      go_wp2_with (go_at_call 85; refine (of_any w.heap.size _ a b c d _ E0.size ha hb hc hd).mono ?_; rintro e' w' ⟨v, rfl, hv, hE⟩; rw [MX.out] at hv; have hcell := hv; obtain ⟨a3, c3', rfl, _, _, _⟩ := hv.shape 1 HL.out; have hk := hcell.at 0 (by rw [HL.out]; omega); rw [HN.out (by rw [HL.out]; omega)] at hk; obtain ⟨gg, rfl, _, _, cx, _⟩ := hk; have R0 := B0.ext hE; have E1 := E0.trans hE; obtain ⟨c0, c1, c2, c3, c4, f0, f1, f2, f3, f4⟩ := five_cells R0)
      all_goals go_ret2
      all_goals exact ⟨rb2' (by rw [← HR.out, HH.out.2]; have := HH.out.1; rw [if_neg (by omega)]) (by rw [← HO.out, HH.out.2]; have := HH.out.1; simp; omega), E1⟩
end Go.Proofs.Ytbnbkondbdakeaa
