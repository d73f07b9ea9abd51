/- Unsigned of the reference of layer 2. Conditions: the cells stand for a number. -/
import Derived.Test.YtdboaogdanahkaaMag1
namespace Go.Proofs.Ytdboaogdanahkaa
set_option linter.unusedVariables false
set_option linter.unusedSimpArgs false
open Go Go.RowKit
theorem rb2' {k : IntKind} {a a' : Int} {b b' : Bool} (h1 : a = a') (h2 : b = b') : Ending.returned (Value.tuple #[.int k a, .bool b]) = .returned (.tuple #[.int k a', .bool b']) := by rw [h1, h2]
def PairRet (k : IntKind) (x : Int) (b : Bool) (w : World) (e : Ending) (w' : World) : Prop := e = .returned (.tuple #[.int k x, .bool b]) ∧ Ext w w'
set_option maxHeartbeats 4000000 in
theorem ref_unsigned (s : Bool) (a b c d : Nat) (z : Int) (w : World) (h : IsW s a b c d z) :
    Calls Try.prog 36 #[.agg #[.bool s, .int .u64 (a : Int), .int .u64 (b : Int), .int .u64 (c : Int), .int .u64 (d : Int)]] w (PairRet .u64 (if 0 ≤ z ∧ z < 18446744073709551616 then z else 0) (decide (0 ≤ z ∧ z < 18446744073709551616)) w) := by
  obtain ⟨r, hr⟩ : ∃ r, (if 0 ≤ z ∧ z < 18446744073709551616 then z else 0) = r := ⟨_, rfl⟩
  obtain ⟨o, ho⟩ : ∃ o, decide (0 ≤ z ∧ z < 18446744073709551616) = o := ⟨_, rfl⟩
  rw [hr, ho]
  have HR := hide hr
  have HO := hide ho
  clear hr ho
  have HX := hide (ext_alloc w (.cells #[.bool s, .int .u64 (a : Int), .int .u64 (b : Int), .int .u64 (c : Int), .int .u64 (d : Int)] 32))
  have B0 := hide (show Box (w.alloc (.cells #[.bool s, .int .u64 (a : Int), .int .u64 (b : Int), .int .u64 (c : Int), .int .u64 (d : Int)] 32)) w.heap.size s a b c d from heap_alloc_new w _)
  go_enter Try.func36, Try.ntmps36
  go_upto_region 1 with fail
  go_cut [] (fun wx => ∃ (s : Bool) (a b c d : Nat), IsC s a b c d z ∧ Box wx w.heap.size s a b c d ∧ Ext w wx)
  case first =>
    go_wp2_with (go_at_call 64; refine (ref_clean s a b c d z _ h).mono ?_; rintro e' w' ⟨s', a', b', c', d', rfl, hC, hE⟩; have R0 := B0.out.ext hE; have E1 := HX.out.trans hE; obtain ⟨c0, c1, c2, c3, c4, f0, f1, f2, f3, f4⟩ := five_cells R0)
    go_meet
    exact ⟨s', a', b', c', d', hC, R0.put, ext_five E1 (Nat.le_refl _) _ _ _ _ _⟩
  case rest =>
    clear B0 HX h
    obtain ⟨s, a, b, c, d, hC, B0, E0⟩ := hcut
    obtain ⟨ha, hb, hc, hd, hz⟩ := hC.1
    have hs := hC.2
    obtain ⟨n, hn⟩ : ∃ n, mag4 a b c d = n := ⟨_, rfl⟩
    obtain ⟨L, hL⟩ : ∃ L, (limbs n).length = L := ⟨_, rfl⟩
    have hL1 : L ≤ 1 ↔ n < 18446744073709551616 := by rw [← hL]; exact limbs_len_le
    rw [hn] at hz
    have hav : n < 18446744073709551616 → a = n := by intro h; simp only [mag4, val] at hn; omega
    have MX := hide hn
    have HL := hide hL
    clear hn hL
    have hcase : s = true ∧ z < 0 ∨ s = false ∧ 1 < L ∧ 18446744073709551616 ≤ z ∨ s = false ∧ L ≤ 1 ∧ 0 ≤ z ∧ z < 18446744073709551616 ∧ (a : Int) = z := by
      cases s <;> simp at hz hs <;> simp <;> omega
    clear hz hs hav hL1 hC
    obtain ⟨c0, c1, c2, c3, c4, f0, f1, f2, f3, f4⟩ := five_cells B0
    rcases hcase with ⟨rfl, h1⟩ | ⟨rfl, h1, h2⟩ | ⟨rfl, h1, h2, h3, h4⟩
    · have HH := hide h1
      clear h1
      go_wp2_with (go_at_call 66; refine (of_any w.heap.size _ a b c d _ E0.size ha hb hc hd).mono ?_; rintro e' w' ⟨v, rfl, hv, hE⟩; rw [MX.out] at hv; obtain ⟨a3, c3', rfl, _, _, _⟩ := hv.shape L HL.out; have R0 := B0.ext hE; have E1 := E0.trans hE; obtain ⟨c0, c1, c2, c3, c4, f0, f1, f2, f3, f4⟩ := five_cells R0)
      all_goals go_ret2
      all_goals exact ⟨rb2' (by rw [← HR.out, if_neg (by have := HH.out; omega)]) (by rw [← HO.out]; have := HH.out; simp; omega), E1⟩
    · have HH := hide h2
      clear h2
      go_wp2_with (go_at_call 66; refine (of_any w.heap.size _ a b c d _ E0.size ha hb hc hd).mono ?_; rintro e' w' ⟨v, rfl, hv, hE⟩; rw [MX.out] at hv; obtain ⟨a3, c3', rfl, _, _, _⟩ := hv.shape L HL.out; have R0 := B0.ext hE; have E1 := E0.trans hE; obtain ⟨c0, c1, c2, c3, c4, f0, f1, f2, f3, f4⟩ := five_cells R0)
      all_goals go_ret2
      all_goals exact ⟨rb2' (by rw [← HR.out, if_neg (by have := HH.out; omega)]) (by rw [← HO.out]; have := HH.out; simp; omega), E1⟩
    · have HH := hide (And.intro h2 (And.intro h3 h4))
      clear h2 h3 h4
      go_wp2_with (go_at_call 66; refine (of_any w.heap.size _ a b c d _ E0.size ha hb hc hd).mono ?_; rintro e' w' ⟨v, rfl, hv, hE⟩; rw [MX.out] at hv; obtain ⟨a3, c3', rfl, _, _, _⟩ := hv.shape L HL.out; have R0 := B0.ext hE; have E1 := E0.trans hE; obtain ⟨c0, c1, c2, c3, c4, f0, f1, f2, f3, f4⟩ := five_cells R0)
      all_goals go_ret2
      all_goals exact ⟨rb2' (by rw [← HR.out, if_pos ⟨HH.out.1, HH.out.2.1⟩]; exact HH.out.2.2) (by rw [← HO.out]; have := HH.out; simp; omega), E1⟩
end Go.Proofs.Ytdboaogdanahkaa
