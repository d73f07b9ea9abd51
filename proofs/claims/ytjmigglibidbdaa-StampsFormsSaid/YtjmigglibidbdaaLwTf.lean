/- Layer 10: StampsForms. Conditions: the slices read as numbers of type int64. -/
import Derived.Test.YtjmigglibidbdaaTms3
namespace Go.Proofs.Ytjmigglibidbdaa
set_option linter.unusedVariables false
set_option linter.unusedSimpArgs false
open Go Go.RowKit Go.Sort
theorem idxTT (g N cap j : Nat) (h : j < N) (w : World) : (Instr.indexAt 28 (.slice (some ⟨g, 0, none⟩) N cap) (.int .i64 (j : Int))).run Try.prog w = .ok (.pointer (some ⟨g, j, none⟩)) w := by
  have hz := Try.sizeOf22
  have he : Try.prog.elem 28 = 22 := by kernel_rfl
  have hr := run_indexAt_slice (P := Try.prog) (w := w) 28 ⟨g, 0, none⟩ N cap .i64 (j : Int) (by kernel_rfl)
  rw [hr, if_pos ⟨by omega, by omega⟩, he, hz]
  simp [Result.andThen, add_at]
/-- Times that lie in a block of the call's own. -/
theorem own_blockT {B : Nat} {w : World} {A : Option Addr} {c cap : Nat} {l : List Int} (h : OwnT B w (.slice A c cap) l) (hc : 0 < c) : ∃ g m, A = some ⟨g, 0, none⟩ ∧ B ≤ g ∧ Blk w g 2 (t8s l ++ m).toArray := by
  rcases h.1.2 with ⟨h0, _⟩ | ⟨g, cap', cur, hv, hg, hh, hnc, hcp, hcs, htake⟩
  · injection h0 with _ h2 _; omega
  · injection hv with h1 h2 h3
    subst h2 h3
    rw [Nat.mul_one] at htake hcs
    refine ⟨g, cur.toList.drop l.length, h1, hg, ?_⟩
    unfold Blk
    rw [hh, ← htake, List.take_append_drop]
theorem times_of_blk {w : World} {g : Nat} {l : List Int} {m : List Value} (h : Blk w g 2 (t8s l ++ m).toArray) (ht : IsT l) (hl : l.length ≤ 1048576) : TimesAt w (some ⟨g, 0, none⟩) l := by
  refine ⟨ht, by omega, fun _ => ⟨g, 0, rfl, h.lt, fun j hj => ?_⟩⟩
  rw [Nat.zero_add, h.cell, getDT hj]
  simp [t8s, List.getElem?_append_left, hj]
theorem blk_setT {w : World} {g : Nat} {l : List Int} {m : List Value} {j : Nat} (h : Blk w g 2 (t8s l ++ m).toArray) (hj : j < l.length) (y : Int) : Blk (w.setCell ⟨g, j, none⟩ (.int .i64 y)) g 2 (t8s (l.set j y) ++ m).toArray := by
  have := h.set_ j (.int .i64 y)
  have e : (t8s l ++ m).toArray.setIfInBounds j (.int .i64 y) = (t8s (l.set j y) ++ m).toArray := by
    rw [List.setIfInBounds_toArray, List.set_append_left _ _ (by rw [t8s_len]; exact hj)]
    simp [t8s, List.map_set]
  rw [e] at this
  exact this
theorem Blk.updT {w w' : World} {g b : Nat} {t : TypeId} {cs : Array Value} (h : Blk w g t cs) (u : Upd b w w') (hb : g ≠ b) : Blk w' g t cs := (u.2.2.2.2 g h.lt hb).trans h
theorem IsT.set {l : List Int} (h : IsT l) (j : Nat) {y : Int} (hy : I64 y) : IsT (l.set j y) := by
  intro x hx
  rcases List.mem_or_eq_of_mem_set hx with h1 | h1
  · exact h x h1
  · subst h1; exact hy
set_option maxRecDepth 100000 in
set_option maxHeartbeats 6400000 in
theorem law_tforms (A : Option Addr) (n c : Nat) (l : List Int) (y : Option Addr) (len cap4 : Nat) (W : World) (hl : TimesAt W A l) (hn : l.length = n) (hL : IsList W y len cap4) :
    Calls Try.prog 3 #[.slice A n c, .slice y len cap4] W (Ret (.bool true) W) := by
  have KN : Hid (Calls Try.prog 8 #[.slice y len cap4] W (NewPost W)) := t_new W y len cap4 hL
  have KL : Hid (∀ w, TapeOk W.heap.size w W.heap.size → Calls Try.prog 9 #[.pointer (some ⟨W.heap.size, 0, none⟩), .int .i64 30] w (TimesPost 30 W.heap.size W.heap.size w)) := hide (fun w h => t_times 30 W.heap.size W.heap.size (by omega) w h)
  have KK := hide (fun w => l_known10 w)
  have HL := hide hl
  have Hn := hide hn
  have i5 : I64 5 := ⟨by omega, by omega⟩
  have KF : Hid (∀ (A : Option Addr) (n c : Nat) (l : List Int), l.length = n → ∃ z ze : Nat, ∃ q : List Nat, ∃ v : Bool,
      (∀ w, TimesAt w A l → Calls Try.prog 11 #[.slice A n c] w (fun e w' => ∃ A3 c3, e = .returned (.tuple #[.slice A3 z c3, .int .i64 (ze : Int)]) ∧ BytesAt w' A3 q ∧ Ext w w')) ∧
      (∀ w, TimesAt w A l → Calls Try.prog 12 #[.slice A n c] w (fun e w' => ∃ A3 c3, e = .returned (.tuple #[.slice A3 z c3, .int .i64 (ze : Int)]) ∧ BytesAt w' A3 q ∧ Ext w w')) ∧
      (∀ A1 c1 A2 c2 w, BytesAt w A1 q → BytesAt w A2 q → Calls Try.prog 13 #[.slice A1 z c1, .slice A2 z c2] w (Ret (.bool true) w)) ∧
      (∀ w, TimesAt w A l → Calls Try.prog 14 #[.slice A n c] w (Ret (.bool v) w)) ∧
      (∀ w, TimesAt w A l → Calls Try.prog 15 #[.slice A n c] w (Ret (.bool v) w))) := hide (fun A n c l hn => by
    refine ⟨(enT l).1.length, (enT l).2, (enT l).1, incB l, fun w h => (p_encT A n c l w h hn).mono fun e w' h => ?_, fun w h => (r_encT A n c l w h hn).mono fun e w' h => ?_, fun A1 c1 A2 c2 w h1 h2 => r_same A1 A2 _ _ c1 c2 _ _ w h1 h2 rfl rfl true (by simp), fun w h => p_inc A n c l w h hn _ rfl, fun w h => r_inc A n c l w h hn _ rfl⟩
    · obtain ⟨A3, c3, rfl, _, _, _, hb, hE⟩ := h.parts
      exact ⟨A3, c3, rfl, hb, hE⟩
    · obtain ⟨A3, c3, rfl, _, _, _, hb, hE⟩ := h.parts
      exact ⟨A3, c3, rfl, hb, hE⟩)
  clear hL hl hn
  go_enter Try.func3, Try.ntmps3
  go_upto_region 3 with (first
    | (go_at_call 8; (with_reducible refine (KN.out).mono ?_); rintro e w1 ⟨rfl, hT, hE⟩; have T1 := hide hT; have E1 := hide hE; have kl := hide (KL.out w1 hT); clear hT hE)
    | (go_at_call 9; (with_reducible refine (kl.out).mono ?_); rintro e w2 ⟨Am, nm, capm, m, rfl, hnm, hn30, hncap, hncap2, hinc, hO, hT2, hU2⟩; have hB2 : w1.heap.size ≤ w2.heap.size := hU2.2.2.2.1; have S2 := hide (Bt.of E1.out T1.out hO hT2 hU2); clear hO hT2 hU2 hncap hncap2 hinc))
  obtain ⟨B, hB⟩ : ∃ B, w1.heap.size = B := ⟨_, rfl⟩
  rw [hB] at S2 hB2
  have Hnm := hide hnm
  have E3 := ext_alloc w2 (.cells #[] 2)
  have O3 := hide (own_ofT (B := w2.heap.size) (w := w2.alloc (.cells #[] 2)) (g := w2.heap.size) (n := 0) (cap := 0) (l := []) (m := []) (Nat.le_refl _) (heap_alloc_new w2 _) rfl rfl (by omega) IsT.nil)
  have m3 := hide (S2.out.times.ext E3)
  have HM2 : Hid (1 < nm → ∀ b off, Am = some ⟨b, off, none⟩ → b < w2.heap.size) := hide (fun h1 b off h => by
    obtain ⟨b', off', he, hb, _⟩ := S2.out.times.2.2 (by rw [Hnm.out]; omega)
    rw [h] at he
    cases he
    exact hb)
  have hle : ([] : List Int).length + m.length ≤ 17592186044416 := by rw [Hnm.out]; simp; omega
  have E3 := hide E3
  have hs3 := E3.out.size
  clear KN KL kl T1 E1 hnm hB
  go_upto_region 4 with (at_builtin; refine wl_appendT rfl (.tmp 18) (.tmp 19) rfl w2.heap.size _ [] m rfl O3.out Am nm capm rfl m3.out Hnm.out hle hs3 ?_; intro v4 w4 hO4 hG4 hA4; have E4 := hide (below_grownT E3.out (Nat.le_refl _) O3.out hG4); have O4 := hide hO4; clear hO4 hG4 hA4)
  have S4 := hide (S2.out.ext E4.out)
  obtain ⟨A4, c4, rfl, hlc4, hlc42, -⟩ := O4.out.at_
  rw [List.nil_append] at O4 hlc4 ⊢
  rw [Hnm.out] at O4 hlc4 ⊢
  clear S2 E3 O3 m3 E4 hs3 hle
  by_cases h1 : 1 < nm
  · have d1 : decide ((1 : Int) < (nm : Int)) = true := decide_eq_true (by omega)
    obtain ⟨g, mr, rfl, hg, hB4⟩ := own_blockT O4.out (Nat.lt_trans Nat.zero_lt_one h1)
    have KM : Hid (∀ b off, Am = some ⟨b, off, none⟩ → b ≠ g) := hide (fun b off h => Nat.ne_of_lt (Nat.lt_of_lt_of_le (HM2.out h1 b off h) hg))
    have inm : I64 (nm : Int) := ⟨by omega, by omega⟩
    have hIT := S4.out.o.2
    have gb := S4.out.gb
    have hgn : g ≠ W.heap.size := Nat.ne_of_gt (Nat.lt_of_lt_of_le gb (Nat.le_trans hB2 hg))
    have T5 := S4.out.t.ext (ext_drew w4)
    have HB5 := hide (show Blk w4.drew g 2 (t8s m ++ mr).toArray from hB4)
    have S5 := hide (S4.out.ext (ext_drew w4))
    obtain ⟨w5, hw5⟩ : ∃ w, w4.drew = w := ⟨_, rfl⟩
    have Hw5 := hide hw5
    rw [hw5] at T5 HB5 S5
    have KA := hide (t_next W.heap.size W.heap.size (nm : Int) w5 inm T5)
    have KB := hide (fun w h => t_next W.heap.size W.heap.size 5 w i5 h)
    have HIT := hide hIT
    clear hw5 T5 hIT hB4 S4 O4
    go_upto_region 5 with fail
    go_region_law (first
      | (go_simp; rw [Hw5.out]; go_at_call 10; (with_reducible refine (KA.out).mono ?_); rintro e w6 ⟨s, rfl, hs, T6, u6⟩; obtain ⟨j, rfl⟩ := Int.eq_ofNat_of_zero_le hs.1; have hj : j < nm := (by have := hs.2.1 (by omega); omega); have hjl : j < m.length := (by rw [Hnm.out]; exact hj); have S6 := hide (S5.out.upd u6 T6); have HB6 := hide (HB5.out.updT u6 hgn); have ixj := fun w => idxTB g nm c4 j hj w; have hx0 := HIT.out.get j; have ct6 : w6.cell? ⟨g, j, none⟩ = some (.int .i64 (m.getD j 0)) := (by rw [HB6.out.cell, getDT hjl]; simp [t8s, List.getElem?_append_left, hjl]); obtain ⟨x0, hxx⟩ : ∃ x, m.getD j 0 = x := ⟨_, rfl⟩; rw [hxx] at ct6 hx0; have kb := hide (KB.out w6 T6); clear hs u6 T6)
      | (go_simp; go_at_call 10; (with_reducible refine (kb.out).mono ?_); rintro e w7 ⟨s, rfl, hs, T7, u7⟩; obtain ⟨x, rfl⟩ := Int.eq_ofNat_of_zero_le hs.1; have hx5 : x < 5 := (by have := hs.2.1 (by omega); omega); have S7 := hide (S6.out.upd u7 T7); have HB7 := hide (HB6.out.updT u7 hgn); have ct7 : w7.cell? ⟨g, j, none⟩ = some (.int .i64 x0) := (by rw [HB7.out.cell, ← hxx, getDT hjl]; simp [t8s, List.getElem?_append_left, hjl]); have f7 := HB7.out.frozen j; clear hs u7 T7))
    all_goals
      have i9 : I64 (IntKind.i64.wrap (x0 + IntKind.i64.wrap ((x : Int) - 2))) := by rw [IntKind.wrap_i64]; exact ⟨by omega, by omega⟩
      obtain ⟨yy, hyy⟩ : ∃ yy, IntKind.i64.wrap (x0 + IntKind.i64.wrap ((x : Int) - 2)) = yy := ⟨_, rfl⟩
      rw [hyy] at i9 ⊢
      have B9 := blk_setT HB7.out hjl yy
      have N9 := hide (times_of_blk B9 (HIT.out.set j i9) (by rw [List.length_set, Hnm.out]; omega))
      have HN9 : Hid ((m.set j yy).length = nm) := hide (by rw [List.length_set]; exact Hnm.out)
      have EW9 := hide (Below.setCell S7.out.e (p := ⟨g, j, none⟩) (Nat.le_of_lt (Nat.lt_of_lt_of_le gb (Nat.le_trans hB2 hg))) (.int .i64 yy))
      have M9 := hide (S7.out.times.keep (w' := w7.setCell ⟨g, j, none⟩ (.int .i64 yy)) (by simp) (fun b off hA hb => Below.heap_setCell w7 ⟨g, j, none⟩ _ b (KM.out b off hA)))
      obtain ⟨w9, hw9⟩ : ∃ w, w7.setCell ⟨g, j, none⟩ (.int .i64 yy) = w := ⟨_, rfl⟩
      rw [hw9] at N9 EW9 M9 ⊢
      clear hw9 hyy i9 B9 S5 S6 S7 HB5 HB6 HB7 KA KB kb ct6 ct7 f7 ixj Hw5 HIT hj hjl hx0 hxx i5 inm
      have Q3 := Blk.new w9 22 #[.slice A n c, .slice Am nm capm, .slice (some ⟨g, 0, none⟩) nm c4]
      have E10 := ext_alloc w9 (.cells #[.slice A n c, .slice Am nm capm, .slice (some ⟨g, 0, none⟩) nm c4] 22)
      go_upto_region 7 with fail
      obtain ⟨w10, hw10⟩ : ∃ w, w9.alloc (.cells #[.slice A n c, .slice Am nm capm, .slice (some ⟨g, 0, none⟩) nm c4] 22) = w := ⟨_, rfl⟩
      rw [hw10] at Q3 E10 ⊢
      obtain ⟨g2, hg2⟩ : ∃ q, w9.heap.size = q := ⟨_, rfl⟩
      rw [hg2] at Q3 ⊢
      have Hx : Hid (∀ (wr : World) (k : Nat), Ext w10 wr → k < 3 → ∃ (A : Option Addr) (n c : Nat) (l : List Int), wr.cell? ⟨g2, k, none⟩ = some (.slice A n c) ∧ TimesAt wr A l ∧ l.length = n) := hide (fun wr k hE hk => by
        have q1 := Q3.ext hE
        have E11 := E10.trans hE
        obtain rfl | rfl | rfl : k = 0 ∨ k = 1 ∨ k = 2 := by omega
        · exact ⟨A, n, c, l, q1.cell 0, (HL.out.ext EW9.out).ext E11, Hn.out⟩
        · exact ⟨Am, nm, capm, m, q1.cell 1, M9.out.ext E11, Hnm.out⟩
        · exact ⟨some ⟨g, 0, none⟩, nm, c4, m.set j yy, q1.cell 2, N9.out.ext E11, HN9.out⟩)
      have EW10 := hide (Ext.trans EW9.out E10)
      have hl1 := Q3.lt
      clear hw10 hg2 Q3 E10 M9 N9 HN9 EW9
      go_wp2_with fail
      go_loopw [9] (fun iv wr => ∃ k : Nat, k ≤ 3 ∧ iv = .int .i64 (k : Int) ∧ Hid (Ext w10 wr)) (fun iv _ => 3 - (intOf iv).toNat)
      case atStart => exact ⟨0, by omega, rfl, hide (Ext.refl _)⟩
      case round =>
        obtain ⟨k, hk, rfl, HE⟩ := hrel
        by_cases hlt : k < 3
        · have d0 : decide ((k : Int) < 3) = true := decide_eq_true (by omega)
          obtain ⟨A5, n5, c5, l5, hc1, hta, hln⟩ := Hx.out wr k HE.out hlt
          have ix1 := fun w => idxTT g2 3 3 k hlt w
          have C1 := hide hc1
          have G1 := hide (show g2 < wr.heap.size from Nat.lt_of_lt_of_le hl1 HE.out.size)
          obtain ⟨z, ze, q, v, K1, K2, K3, K4, K5⟩ := KF.out A5 n5 c5 l5 hln
          have K1 := hide (K1 wr hta)
          have K2 := hide (fun w (h : Ext wr w) => K2 w (hta.ext h))
          have K3 := hide (fun A1 c1 A2 c2 w h1 h2 => K3 A1 c1 A2 c2 w h1 h2)
          have K4 := hide (fun w (h : Ext wr w) => K4 w (hta.ext h))
          have K5 := hide (fun w (h : Ext wr w) => K5 w (hta.ext h))
          have de : ((ze : Int) != (ze : Int)) = false := by simp
          have dv : (v != v) = false := by simp
          clear hta hln
          go_upto_region 12 with (first
            | (go_at_call 11; (with_reducible refine (K1.out).mono ?_); rintro e z4 ⟨A6, c6, rfl, hb6, hE6⟩; have X4 := hide hE6; have b6 := hide hb6; have hc1 := (hE6.cell (p := ⟨g2, k, none⟩) G1.out).trans C1.out; have k2 := hide (K2.out z4 hE6); clear hb6 hE6)
            | (go_at_call 12; (with_reducible refine (k2.out).mono ?_); rintro e z5 ⟨A7, c7, rfl, hb7, hE7⟩; have X5 := hide (X4.out.trans hE7); have b7 := hide hb7; have b67 := hide (b6.out.ext hE7); have hc1 := (X5.out.cell (p := ⟨g2, k, none⟩) G1.out).trans C1.out; clear hb7 hE7))
          have k3 := hide (fun w (h : Ext z5 w) => K3.out A6 c6 A7 c7 w (b67.out.ext h) (b7.out.ext h))
          have k4 := hide (fun w (h : Ext z5 w) => K4.out w (X5.out.trans h))
          have k5 := hide (fun w (h : Ext z5 w) => K5.out w (X5.out.trans h))
          clear K1 K2 K3 K4 K5 k2 b6 b7 b67
          have cq := fun d os => cell_regrown hc1 d os
          refine wp_region_quiet_below (by kernel_rfl) (by kernel_rfl) ?_
          repeat (first | go_big_quiet_step (first | with_reducible exact quiet_ret (k3.out _ (ext_regrown _ _ _)) | with_reducible exact quiet_ret (k4.out _ (ext_regrown _ _ _)) | with_reducible exact quiet_ret (k5.out _ (ext_regrown _ _ _))) | quiet_step (first | with_reducible exact quiet_ret (k3.out _ (ext_regrown _ _ _)) | with_reducible exact quiet_ret (k4.out _ (ext_regrown _ _ _)) | with_reducible exact quiet_ret (k5.out _ (ext_regrown _ _ _))))
          refine wpQuiet_nil ?_
          intro _ hw'
          obtain ⟨⟨dq, osq⟩, hw''⟩ := hw'
          subst hw''
          have X6 := hide (HE.out.trans (X5.out.trans (ext_regrown _ dq osq)))
          obtain ⟨z6, hz6⟩ : ∃ w, grow (redrawn z5 dq) osq = w := ⟨_, rfl⟩
          rw [hz6] at X6 ⊢
          clear hz6
          go_wp2_with fail
          go_roundw
          case rel => exact ⟨k + 1, by omega, by go_num, X6⟩
          case measure => simp [intOf]; omega
        · obtain rfl : k = 3 := by omega
          go_wp2_with (go_at_call 16; (with_reducible refine (KK.out _).mono ?_); rintro e z7 ⟨rfl, hE7⟩; have X7 := hide (EW10.out.trans (HE.out.trans hE7)); clear hE7)
          go_ret
          exact ⟨rfl, X7.out⟩
  · have d1 : decide ((1 : Int) < (nm : Int)) = false := decide_eq_false (by omega)
    have EW9 := hide S4.out.e
    have M9 := hide S4.out.times
    have N9 := hide (own_times O4.out)
    have HN9 := Hnm
    clear S4 O4 i5
    go_upto_region 6 with fail
    have Q3 := Blk.new w4 22 #[.slice A n c, .slice Am nm capm, .slice A4 nm c4]
    have E10 := ext_alloc w4 (.cells #[.slice A n c, .slice Am nm capm, .slice A4 nm c4] 22)
    go_upto_region 7 with fail
    obtain ⟨w10, hw10⟩ : ∃ w, w4.alloc (.cells #[.slice A n c, .slice Am nm capm, .slice A4 nm c4] 22) = w := ⟨_, rfl⟩
    rw [hw10] at Q3 E10 ⊢
    obtain ⟨g2, hg2⟩ : ∃ q, w4.heap.size = q := ⟨_, rfl⟩
    rw [hg2] at Q3 ⊢
    have Hx : Hid (∀ (wr : World) (k : Nat), Ext w10 wr → k < 3 → ∃ (A : Option Addr) (n c : Nat) (l : List Int), wr.cell? ⟨g2, k, none⟩ = some (.slice A n c) ∧ TimesAt wr A l ∧ l.length = n) := hide (fun wr k hE hk => by
      have q1 := Q3.ext hE
      have E11 := E10.trans hE
      obtain rfl | rfl | rfl : k = 0 ∨ k = 1 ∨ k = 2 := by omega
      · exact ⟨A, n, c, l, q1.cell 0, (HL.out.ext EW9.out).ext E11, Hn.out⟩
      · exact ⟨Am, nm, capm, m, q1.cell 1, M9.out.ext E11, Hnm.out⟩
      · exact ⟨A4, nm, c4, m, q1.cell 2, N9.out.ext E11, HN9.out⟩)
    have EW10 := hide (Ext.trans EW9.out E10)
    have hl1 := Q3.lt
    clear hw10 hg2 Q3 E10 M9 N9 HN9 EW9
    go_wp2_with fail
    go_loopw [9] (fun iv wr => ∃ k : Nat, k ≤ 3 ∧ iv = .int .i64 (k : Int) ∧ Hid (Ext w10 wr)) (fun iv _ => 3 - (intOf iv).toNat)
    case atStart => exact ⟨0, by omega, rfl, hide (Ext.refl _)⟩
    case round =>
      obtain ⟨k, hk, rfl, HE⟩ := hrel
      by_cases hlt : k < 3
      · have d0 : decide ((k : Int) < 3) = true := decide_eq_true (by omega)
        obtain ⟨A5, n5, c5, l5, hc1, hta, hln⟩ := Hx.out wr k HE.out hlt
        have ix1 := fun w => idxTT g2 3 3 k hlt w
        have C1 := hide hc1
        have G1 := hide (show g2 < wr.heap.size from Nat.lt_of_lt_of_le hl1 HE.out.size)
        obtain ⟨z, ze, q, v, K1, K2, K3, K4, K5⟩ := KF.out A5 n5 c5 l5 hln
        have K1 := hide (K1 wr hta)
        have K2 := hide (fun w (h : Ext wr w) => K2 w (hta.ext h))
        have K3 := hide (fun A1 c1 A2 c2 w h1 h2 => K3 A1 c1 A2 c2 w h1 h2)
        have K4 := hide (fun w (h : Ext wr w) => K4 w (hta.ext h))
        have K5 := hide (fun w (h : Ext wr w) => K5 w (hta.ext h))
        have de : ((ze : Int) != (ze : Int)) = false := by simp
        have dv : (v != v) = false := by simp
        clear hta hln
        go_upto_region 12 with (first
          | (go_at_call 11; (with_reducible refine (K1.out).mono ?_); rintro e z4 ⟨A6, c6, rfl, hb6, hE6⟩; have X4 := hide hE6; have b6 := hide hb6; have hc1 := (hE6.cell (p := ⟨g2, k, none⟩) G1.out).trans C1.out; have k2 := hide (K2.out z4 hE6); clear hb6 hE6)
          | (go_at_call 12; (with_reducible refine (k2.out).mono ?_); rintro e z5 ⟨A7, c7, rfl, hb7, hE7⟩; have X5 := hide (X4.out.trans hE7); have b7 := hide hb7; have b67 := hide (b6.out.ext hE7); have hc1 := (X5.out.cell (p := ⟨g2, k, none⟩) G1.out).trans C1.out; clear hb7 hE7))
        have k3 := hide (fun w (h : Ext z5 w) => K3.out A6 c6 A7 c7 w (b67.out.ext h) (b7.out.ext h))
        have k4 := hide (fun w (h : Ext z5 w) => K4.out w (X5.out.trans h))
        have k5 := hide (fun w (h : Ext z5 w) => K5.out w (X5.out.trans h))
        clear K1 K2 K3 K4 K5 k2 b6 b7 b67
        have cq := fun d os => cell_regrown hc1 d os
        refine wp_region_quiet_below (by kernel_rfl) (by kernel_rfl) ?_
        repeat (first | go_big_quiet_step (first | with_reducible exact quiet_ret (k3.out _ (ext_regrown _ _ _)) | with_reducible exact quiet_ret (k4.out _ (ext_regrown _ _ _)) | with_reducible exact quiet_ret (k5.out _ (ext_regrown _ _ _))) | quiet_step (first | with_reducible exact quiet_ret (k3.out _ (ext_regrown _ _ _)) | with_reducible exact quiet_ret (k4.out _ (ext_regrown _ _ _)) | with_reducible exact quiet_ret (k5.out _ (ext_regrown _ _ _))))
        refine wpQuiet_nil ?_
        intro _ hw'
        obtain ⟨⟨dq, osq⟩, hw''⟩ := hw'
        subst hw''
        have X6 := hide (HE.out.trans (X5.out.trans (ext_regrown _ dq osq)))
        obtain ⟨z6, hz6⟩ : ∃ w, grow (redrawn z5 dq) osq = w := ⟨_, rfl⟩
        rw [hz6] at X6 ⊢
        clear hz6
        go_wp2_with fail
        go_roundw
        case rel => exact ⟨k + 1, by omega, by go_num, X6⟩
        case measure => simp [intOf]; omega
      · obtain rfl : k = 3 := by omega
        go_wp2_with (go_at_call 16; (with_reducible refine (KK.out _).mono ?_); rintro e z7 ⟨rfl, hE7⟩; have X7 := hide (EW10.out.trans (HE.out.trans hE7)); clear hE7)
        go_ret
        exact ⟨rfl, X7.out⟩
end Go.Proofs.Ytjmigglibidbdaa
