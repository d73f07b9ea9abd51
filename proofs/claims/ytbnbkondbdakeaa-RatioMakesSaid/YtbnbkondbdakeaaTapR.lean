/- The tape's fraction. Conditions: the numbers of the tape lie in memory that was there. -/
import Derived.Test.YtbnbkondbdakeaaFixM
import Derived.Test.YtbnbkondbdakeaaTapeC
namespace Go.Proofs.Ytbnbkondbdakeaa
set_option linter.unusedVariables false
set_option linter.unusedSimpArgs false
open Go Go.RowKit
theorem or_one {v : Int} (h : U64 v) : ∃ m : Nat, bits .or .u64 v 1 = (m : Int) ∧ 1 ≤ m ∧ m < 18446744073709551616 := by
  refine ⟨(BitVec.ofInt 64 v ||| BitVec.ofInt 64 1).toNat, ?_, ?_, (BitVec.ofInt 64 v ||| BitVec.ofInt 64 1).isLt⟩
  · show IntKind.u64.wrap ((BitVec.ofInt 64 v ||| BitVec.ofInt 64 1).toNat : Int) = _
    have := (BitVec.ofInt 64 v ||| BitVec.ofInt 64 1).isLt
    rw [wrap_u64']
    omega
  · have h1 : (BitVec.ofInt 64 v ||| BitVec.ofInt 64 1).getLsbD 0 = true := by
      rw [BitVec.getLsbD_or]
      have : (BitVec.ofInt 64 1).getLsbD 0 = true := by decide
      rw [this, Bool.or_true]
    rcases Nat.eq_zero_or_pos (BitVec.ofInt 64 v ||| BitVec.ofInt 64 1).toNat with h0 | h0
    · rw [BitVec.getLsbD, h0] at h1; simp at h1
    · exact h0
theorem Box10.upd {w w' : World} {k b : Nat} {s : Bool} {a b' c d : Nat} {t : Bool} {e f g h : Nat} (x : Box10 w k s a b' c d t e f g h) (u : Upd b w w') (hn : k ≠ b) : Box10 w' k s a b' c d t e f g h := by
  have := x.lt; unfold Box10; rw [u.2.2.2.2 k this hn]; exact x
theorem TapeOk.five {B b g : Nat} {w : World} (h : TapeOk B w b) (hg : b < g) (u0 u1 u2 u3 u4 : Value) : TapeOk B (((((w.setCell ⟨g, 0, none⟩ u0).setCell ⟨g, 1, none⟩ u1).setCell ⟨g, 2, none⟩ u2).setCell ⟨g, 3, none⟩ u3).setCell ⟨g, 4, none⟩ u4) b := ((((h.store hg u0).store hg u1).store hg u2).store hg u3).store hg u4
theorem Upd.five {b g : Nat} {W w : World} (h : Upd b W w) (hg : W.heap.size ≤ g) (u0 u1 u2 u3 u4 : Value) : Upd b W (((((w.setCell ⟨g, 0, none⟩ u0).setCell ⟨g, 1, none⟩ u1).setCell ⟨g, 2, none⟩ u2).setCell ⟨g, 3, none⟩ u3).setCell ⟨g, 4, none⟩ u4) := ((((h.store hg u0).store hg u1).store hg u2).store hg u3).store hg u4
theorem t_bool8 (B b : Nat) (W w : World) (hT : TapeOk B w b) (hW : Upd b W w) :
    Calls Try.prog 60 #[.pointer (some ⟨b, 0, none⟩), .int .i64 8] w (BoolPost B b W) := by
  have hm : (1 : Int).tmod 8 = 1 := by decide
  have hT' := hT.below (below_drewN' (b + 1) w 1)
  go_enter Try.func60, Try.ntmps60
  go_wp2_with fail
  go_region_with (go_at_call 19; refine (t_next' B b 8 W _ ⟨by omega, by omega⟩ (by first | exact hT | exact (hT.below (below_drewN' (b + 1) w 1))) (by first | exact hW | exact hW.drew)).mono ?_; rintro e w' ⟨u, rfl, hu, hT2, hB2⟩)
  all_goals go_wp2_with fail
  all_goals go_ret
  all_goals exact ⟨_, rfl, hT2, hB2⟩
theorem TapeOk.ten {B b g : Nat} {w : World} (h : TapeOk B w b) (hg : b < g) (u0 u1 u2 u3 u4 u5 u6 u7 u8 u9 : Value) : TapeOk B ((((((((((w.setCell ⟨g, 0, none⟩ u0).setCell ⟨g, 1, none⟩ u1).setCell ⟨g, 2, none⟩ u2).setCell ⟨g, 3, none⟩ u3).setCell ⟨g, 4, none⟩ u4).setCell ⟨g, 5, none⟩ u5).setCell ⟨g, 6, none⟩ u6).setCell ⟨g, 7, none⟩ u7).setCell ⟨g, 8, none⟩ u8).setCell ⟨g, 9, none⟩ u9) b := (((((h.five hg u0 u1 u2 u3 u4).store hg u5).store hg u6).store hg u7).store hg u8).store hg u9
theorem Upd.ten {b g : Nat} {W w : World} (h : Upd b W w) (hg : W.heap.size ≤ g) (u0 u1 u2 u3 u4 u5 u6 u7 u8 u9 : Value) : Upd b W ((((((((((w.setCell ⟨g, 0, none⟩ u0).setCell ⟨g, 1, none⟩ u1).setCell ⟨g, 2, none⟩ u2).setCell ⟨g, 3, none⟩ u3).setCell ⟨g, 4, none⟩ u4).setCell ⟨g, 5, none⟩ u5).setCell ⟨g, 6, none⟩ u6).setCell ⟨g, 7, none⟩ u7).setCell ⟨g, 8, none⟩ u8).setCell ⟨g, 9, none⟩ u9) := (((((h.five hg u0 u1 u2 u3 u4).store hg u5).store hg u6).store hg u7).store hg u8).store hg u9
def TapeRat (B b : Nat) (W : World) (e : Ending) (w' : World) : Prop := ∃ n d : Int, e = .returned (.agg #[.bool (sg n), .int .u64 (l0 n : Int), .int .u64 (l1 n : Int), .int .u64 (l2 n : Int), .int .u64 (l3 n : Int), .bool (sg d), .int .u64 (l0 d : Int), .int .u64 (l1 d : Int), .int .u64 (l2 d : Int), .int .u64 (l3 d : Int)]) ∧ Frac n d ∧ TapeOk B w' b ∧ Upd b W w'
/-- Two boxes hold a numerator and a denominator. -/
def RatPair2 (B b : Nat) (W : World) (g g1 : Nat) (wx : World) : Prop := ∃ n d : Int, F256 n ∧ 1 ≤ d ∧ d < 18446744073709551616 ∧ Box wx g1 (sg n) (l0 n) (l1 n) (l2 n) (l3 n) ∧ Box wx (g1 + 1) (sg d) (l0 d) (l1 d) (l2 d) (l3 d) ∧ Box10 wx g false 0 0 0 0 false 0 0 0 0 ∧ TapeOk B wx b ∧ Upd b W wx
def RatPair (B b : Nat) (W : World) (g g1 : Nat) (wx : World) : Prop := ∃ n d : Int, n.natAbs < 85070591730234615865843651857942052864 ∧ 1 ≤ d ∧ d < 18446744073709551616 ∧ Box wx g1 (sg n) (l0 n) (l1 n) (l2 n) (l3 n) ∧ Box wx (g1 + 1) (sg d) (l0 d) (l1 d) (l2 d) (l3 d) ∧ Box10 wx g false 0 0 0 0 false 0 0 0 0 ∧ TapeOk B wx b ∧ Upd b W wx
set_option maxRecDepth 100000 in
set_option maxHeartbeats 8000000 in
theorem t_ratio (B b : Nat) (W w : World) (hT : TapeOk B w b) (hW : Upd b W w) : Calls Try.prog 37 #[.pointer (some ⟨b, 0, none⟩)] w (TapeRat B b W) := by
  have hbw := hT.2.1
  have hWw := hW.2.2.2.1
  have P0 : Box10 (w.alloc (.cells #[.bool false, .int .u64 0, .int .u64 0, .int .u64 0, .int .u64 0, .bool false, .int .u64 0, .int .u64 0, .int .u64 0, .int .u64 0] 35)) w.heap.size false 0 0 0 0 false 0 0 0 0 := heap_alloc_new w _
  have E0 := ext_alloc w (.cells #[.bool false, .int .u64 0, .int .u64 0, .int .u64 0, .int .u64 0, .bool false, .int .u64 0, .int .u64 0, .int .u64 0, .int .u64 0] 35)
  obtain ⟨W0, hW0⟩ : ∃ W0, W0 = w.alloc (.cells #[.bool false, .int .u64 0, .int .u64 0, .int .u64 0, .int .u64 0, .bool false, .int .u64 0, .int .u64 0, .int .u64 0, .int .u64 0] 35) := ⟨_, rfl⟩
  rw [← hW0] at P0 E0
  have T0 := hT.ext E0
  have UU := hide (hW.more E0)
  obtain ⟨g, hg⟩ : ∃ g, w.heap.size = g := ⟨_, rfl⟩
  rw [hg] at P0 hbw hWw
  have HG := hide hg
  have HW0 := hide hW0
  clear hg hW0 hT hW E0
  have neP0 : g ≠ b := by omega
  have i200 : I64 200 := ⟨by omega, by omega⟩
  have i60 : I64 60 := ⟨by omega, by omega⟩
  go_enter Try.func37, Try.ntmps37
  go_upto_region 1 with fail
  rw [← HW0.out, HG.out]
  clear HW0 HG
  go_upto_region 2 with (first
    | (go_at_call 19; (with_reducible refine (t_next B b 200 _ i200 T0).mono ?_); rintro e' w1 ⟨u, rfl, huu, T1, hU⟩; have P0 := P0.upd hU neP0; have UU := hide (UU.out.trans hU); obtain ⟨xP00, xP01, xP02, xP03, xP04, xP05, xP06, xP07, xP08, xP09, xP0f0, xP0f1, xP0f2, xP0f3, xP0f4, xP0f5, xP0f6, xP0f7, xP0f8, xP0f9⟩ := ten_cells P0; have u0 := huu.1; have u1 := huu.2.1 (by omega); clear T0 hU huu; obtain ⟨n, hn⟩ : ∃ n, u - 100 = n := ⟨_, rfl⟩; have kn : Hid (∀ w, Calls Try.prog 17 #[.int .i64 (u - 100)] w (Ret (.agg #[.bool (sg n), .int .u64 (l0 n : Int), .int .u64 (l1 n : Int), .int .u64 (l2 n : Int), .int .u64 (l3 n : Int)]) w)) := (fun w => by rw [hn]; exact d_ofi (by omega) (by omega) w); have bn : n.natAbs < 85070591730234615865843651857942052864 := (by omega); clear hn)
    | (go_at_call 17; (with_reducible refine (kn.out _).mono ?_); rintro e' w2 ⟨rfl, hE⟩; have P0 := P0.ext hE; have UU := hide (UU.out.more hE); obtain ⟨xP00, xP01, xP02, xP03, xP04, xP05, xP06, xP07, xP08, xP09, xP0f0, xP0f1, xP0f2, xP0f3, xP0f4, xP0f5, xP0f6, xP0f7, xP0f8, xP0f9⟩ := ten_cells P0; have T2 := T1.ext hE; clear T1 hE kn)
    | (go_at_call 19; (with_reducible refine (t_next B b 60 _ i60 T2).mono ?_); rintro e' w3 ⟨v, rfl, huv, T3, hU⟩; have P0 := P0.upd hU neP0; have UU := hide (UU.out.trans hU); obtain ⟨xP00, xP01, xP02, xP03, xP04, xP05, xP06, xP07, xP08, xP09, xP0f0, xP0f1, xP0f2, xP0f3, xP0f4, xP0f5, xP0f6, xP0f7, xP0f8, xP0f9⟩ := ten_cells P0; have v0 := huv.1; have v1 := huv.2.1 (by omega); clear T2 hU huv; obtain ⟨d, hd⟩ : ∃ d, 1 + v = d := ⟨_, rfl⟩; have kd : Hid (∀ w, Calls Try.prog 17 #[.int .i64 (1 + v)] w (Ret (.agg #[.bool (sg d), .int .u64 (l0 d : Int), .int .u64 (l1 d : Int), .int .u64 (l2 d : Int), .int .u64 (l3 d : Int)]) w)) := (fun w => by rw [hd]; exact d_ofi (by omega) (by omega) w); have bd1 : 1 ≤ d := (by omega); have bd2 : d < 18446744073709551616 := (by omega); clear hd)
    | (go_at_call 17; (with_reducible refine (kd.out _).mono ?_); rintro e' w4 ⟨rfl, hE⟩; have P0 := P0.ext hE; have UU := hide (UU.out.more hE); obtain ⟨xP00, xP01, xP02, xP03, xP04, xP05, xP06, xP07, xP08, xP09, xP0f0, xP0f1, xP0f2, xP0f3, xP0f4, xP0f5, xP0f6, xP0f7, xP0f8, xP0f9⟩ := ten_cells P0; have T4 := T3.ext hE; clear T3 hE kd))
  have H2 := two_blocks w4 (.cells #[.bool (sg n), .int .u64 (l0 n : Int), .int .u64 (l1 n : Int), .int .u64 (l2 n : Int), .int .u64 (l3 n : Int)] 25) (.cells #[.bool (sg d), .int .u64 (l0 d : Int), .int .u64 (l1 d : Int), .int .u64 (l2 d : Int), .int .u64 (l3 d : Int)] 25)
  have hE := (ext_alloc w4 (.cells #[.bool (sg n), .int .u64 (l0 n : Int), .int .u64 (l1 n : Int), .int .u64 (l2 n : Int), .int .u64 (l3 n : Int)] 25)).trans (ext_alloc _ (.cells #[.bool (sg d), .int .u64 (l0 d : Int), .int .u64 (l1 d : Int), .int .u64 (l2 d : Int), .int .u64 (l3 d : Int)] 25))
  have hbw4 := T4.2.1
  have lP0 := P0.lt
  have P0 := P0.ext hE
  have UU := hide (UU.out.more hE)
  have T5 := T4.ext hE
  clear hE T4
  obtain ⟨W4, hW⟩ : ∃ W, W = (w4.alloc (.cells #[.bool (sg n), .int .u64 (l0 n : Int), .int .u64 (l1 n : Int), .int .u64 (l2 n : Int), .int .u64 (l3 n : Int)] 25)).alloc (.cells #[.bool (sg d), .int .u64 (l0 d : Int), .int .u64 (l1 d : Int), .int .u64 (l2 d : Int), .int .u64 (l3 d : Int)] 25) := ⟨_, rfl⟩
  rw [← hW] at H2 UU P0 T5 ⊢
  obtain ⟨g1, hg⟩ : ∃ g, w4.heap.size = g := ⟨_, rfl⟩
  rw [hg] at H2 hbw4 lP0 ⊢
  obtain ⟨P1, P2⟩ : Box W4 g1 (sg n) (l0 n) (l1 n) (l2 n) (l3 n) ∧ Box W4 (g1 + 1) (sg d) (l0 d) (l1 d) (l2 d) (l3 d) := H2
  clear hW hg
  have neP1 : g1 ≠ b := by omega
  have neP2 : g1 + 1 ≠ b := by omega
  have ne01 : g ≠ g1 := by omega
  have ne02 : g ≠ g1 + 1 := by omega
  have hWg1 : W.heap.size ≤ g1 := by omega
  have hbg1 : b < g1 := by omega
  go_upto_if 16 with (go_at_call 60; (with_reducible refine (t_bool B b 4 _ _ (by omega) (by omega) T5 (Upd.refl _ _)).mono ?_); rintro e' w5 ⟨bv, rfl, T6, hU⟩; have P0 := P0.upd hU neP0; have P1 := P1.upd hU neP1; have P2 := P2.upd hU neP2; have UU := hide (UU.out.trans hU); clear T5 hU)
  go_cut [] (fun wx => RatPair B b W g g1 wx)
  case first =>
    cases bv
    · go_wp2_with fail
      all_goals go_meet
      all_goals exact ⟨n, d, bn, bd1, bd2, P1, P2, P0, T6, UU.out⟩
    · go_wp2_with (first
        | (go_at_call 18; (with_reducible refine (t_int B b _ _ T6 (Upd.refl _ _)).mono ?_); rintro e' w6 ⟨n', rfl, hi, T7, hU⟩; have P0 := P0.upd hU neP0; have P1 := P1.upd hU neP1; have P2 := P2.upd hU neP2; have UU := hide (UU.out.trans hU); obtain ⟨xP00, xP01, xP02, xP03, xP04, xP05, xP06, xP07, xP08, xP09, xP0f0, xP0f1, xP0f2, xP0f3, xP0f4, xP0f5, xP0f6, xP0f7, xP0f8, xP0f9⟩ := ten_cells P0; obtain ⟨xP10, xP11, xP12, xP13, xP14, xP1f0, xP1f1, xP1f2, xP1f3, xP1f4⟩ := five_cells P1; obtain ⟨xP20, xP21, xP22, xP23, xP24, xP2f0, xP2f1, xP2f2, xP2f3, xP2f4⟩ := five_cells P2; have n1 := hi.1; have n2 := hi.2; have bn' : n'.natAbs < 85070591730234615865843651857942052864 := (by omega); clear hi hU T6)
        | (go_at_call 17; (with_reducible refine (d_ofi n1 n2 _).mono ?_); rintro e' w7 ⟨rfl, hE⟩; have P0 := P0.ext hE; have P1 := P1.ext hE; have P2 := P2.ext hE; have UU := hide (UU.out.more hE); obtain ⟨xP00, xP01, xP02, xP03, xP04, xP05, xP06, xP07, xP08, xP09, xP0f0, xP0f1, xP0f2, xP0f3, xP0f4, xP0f5, xP0f6, xP0f7, xP0f8, xP0f9⟩ := ten_cells P0; obtain ⟨xP10, xP11, xP12, xP13, xP14, xP1f0, xP1f1, xP1f2, xP1f3, xP1f4⟩ := five_cells P1; obtain ⟨xP20, xP21, xP22, xP23, xP24, xP2f0, xP2f1, xP2f2, xP2f3, xP2f4⟩ := five_cells P2; have T8 := T7.ext hE; clear hE T7)
        | (go_at_call 38; (with_reducible refine (t_word' B b _ _ T8 (Upd.refl _ _)).mono ?_); rintro e' w8 ⟨v', rfl, hv', T9, hU⟩; have P0 := P0.upd hU neP0; have P1 := P1.upd hU neP1; have P2 := P2.upd hU neP2; have UU := hide (UU.out.trans hU); obtain ⟨xP00, xP01, xP02, xP03, xP04, xP05, xP06, xP07, xP08, xP09, xP0f0, xP0f1, xP0f2, xP0f3, xP0f4, xP0f5, xP0f6, xP0f7, xP0f8, xP0f9⟩ := ten_cells P0; obtain ⟨xP10, xP11, xP12, xP13, xP14, xP1f0, xP1f1, xP1f2, xP1f3, xP1f4⟩ := five_cells P1; obtain ⟨xP20, xP21, xP22, xP23, xP24, xP2f0, xP2f1, xP2f2, xP2f3, xP2f4⟩ := five_cells P2; obtain ⟨m, hm, m1, m2⟩ := or_one hv'; clear hU T8 hv')
        | (go_at_call 91; (with_reducible refine (d_ofu m2 _).mono ?_); rintro e' w9 ⟨rfl, hE⟩; have P0 := P0.ext hE; have P1 := P1.ext hE; have P2 := P2.ext hE; have UU := hide (UU.out.more hE); obtain ⟨xP00, xP01, xP02, xP03, xP04, xP05, xP06, xP07, xP08, xP09, xP0f0, xP0f1, xP0f2, xP0f3, xP0f4, xP0f5, xP0f6, xP0f7, xP0f8, xP0f9⟩ := ten_cells P0; obtain ⟨xP10, xP11, xP12, xP13, xP14, xP1f0, xP1f1, xP1f2, xP1f3, xP1f4⟩ := five_cells P1; obtain ⟨xP20, xP21, xP22, xP23, xP24, xP2f0, xP2f1, xP2f2, xP2f3, xP2f4⟩ := five_cells P2; have TA := T9.ext hE; clear hE T9 hm))
      all_goals go_meet
      all_goals exact ⟨n', (m : Int), bn', by omega, by omega, (P1.put).far (by omega) _ _ _ _ _, (P2.far (by omega) _ _ _ _ _).put, (P0.far (by omega) _ _ _ _ _).far (by omega) _ _ _ _ _, (TA.five hbg1 _ _ _ _ _).five (by omega) _ _ _ _ _, (UU.out.five hWg1 _ _ _ _ _).five (by omega) _ _ _ _ _⟩
  case rest =>
    clear P0 P1 P2 UU T6 bn bd1 bd2
    obtain ⟨n, d, bn, bd1, bd2, P1, P2, P0, T6, UU'⟩ := hcut
    have UU := hide UU'
    clear UU'
    go_upto_if 25 with (go_at_call 60; (with_reducible refine (t_bool8 B b _ _ T6 (Upd.refl _ _)).mono ?_); rintro e' w5 ⟨bv, rfl, T7, hU⟩; have P0 := P0.upd hU neP0; have P1 := P1.upd hU neP1; have P2 := P2.upd hU neP2; have UU := hide (UU.out.trans hU); clear T6 hU)
    go_cut [] (fun wx => RatPair2 B b W g g1 wx)
    case first =>
      cases bv
      · go_wp2_with fail
        all_goals go_meet
        all_goals exact ⟨n, d, by unfold F256; omega, bd1, bd2, P1, P2, P0, T7, UU.out⟩
      · obtain ⟨n', hn'⟩ : ∃ z, n * 4611686018427387904 = z := ⟨_, rfl⟩
        have fn' : F256 n' := by unfold F256; omega
        have k1 : Hid (∀ w, Calls Try.prog 17 #[.int .i64 4611686018427387904] w (Ret (.agg #[.bool (sg 4611686018427387904), .int .u64 (l0 4611686018427387904 : Int), .int .u64 (l1 4611686018427387904 : Int), .int .u64 (l2 4611686018427387904 : Int), .int .u64 (l3 4611686018427387904 : Int)]) w)) := fun w => d_ofi (by omega) (by omega) w
        have k2 : Hid (∀ w, Calls Try.prog 33 #[.agg #[.bool (sg n), .int .u64 (l0 n : Int), .int .u64 (l1 n : Int), .int .u64 (l2 n : Int), .int .u64 (l3 n : Int)], .agg #[.bool (sg 4611686018427387904), .int .u64 (l0 4611686018427387904 : Int), .int .u64 (l1 4611686018427387904 : Int), .int .u64 (l2 4611686018427387904 : Int), .int .u64 (l3 4611686018427387904 : Int)]] w (Ret (.tuple #[.agg #[.bool (sg n'), .int .u64 (l0 n' : Int), .int .u64 (l1 n' : Int), .int .u64 (l2 n' : Int), .int .u64 (l3 n' : Int)], .bool true]) w)) := fun w => d_mul (by unfold F256; omega) (by unfold F256; omega) hn' fn' w
        clear hn'
        go_upto_region 5 with fail
        have lP1 := P1.lt
        obtain ⟨xP10, xP11, xP12, xP13, xP14, xP1f0, xP1f1, xP1f2, xP1f3, xP1f4⟩ := five_cells P1
        go_region_with (first
          | (go_at_call 17; (with_reducible refine (k1.out _).mono ?_); rintro e' w6 ⟨rfl, hE⟩; have hE := (ext_drew _).trans hE; have P0 := P0.ext hE; have P1 := P1.ext hE; have P2 := P2.ext hE; have UU := hide (UU.out.more hE); obtain ⟨xP10, xP11, xP12, xP13, xP14, xP1f0, xP1f1, xP1f2, xP1f3, xP1f4⟩ := five_cells P1; have T8 := T7.ext hE; clear hE T7)
          | (go_at_call 33; (with_reducible refine (k2.out _).mono ?_); rintro e' w7 ⟨rfl, hE⟩; have P0 := P0.ext hE; have P1 := P1.ext hE; have P2 := P2.ext hE; have UU := hide (UU.out.more hE); obtain ⟨xP10, xP11, xP12, xP13, xP14, xP1f0, xP1f1, xP1f2, xP1f3, xP1f4⟩ := five_cells P1; have T9 := T8.ext hE; clear hE T8))
        all_goals go_wp2_with fail
        all_goals go_meet
        all_goals exact ⟨n', d, fn', bd1, bd2, P1.put, P2.far (by omega) _ _ _ _ _, P0.far (by omega) _ _ _ _ _, T9.five hbg1 _ _ _ _ _, UU.out.five hWg1 _ _ _ _ _⟩
    case rest =>
      clear P0 P1 P2 UU T7 bn bd1 bd2
      obtain ⟨n, d, fn, bd1, bd2, P1, P2, P0, T7, UU'⟩ := hcut
      have UU := hide UU'
      clear UU'
      obtain ⟨o, ho⟩ : ∃ o, mkB n d = o := ⟨_, rfl⟩
      obtain ⟨N, hN⟩ : ∃ N, (if o then numR n d else 0) = N := ⟨_, rfl⟩
      obtain ⟨D, hD⟩ : ∃ D, (if o then denR n d else 0) = D := ⟨_, rfl⟩
      have hF : Hid (o = true → Frac N D) := by
        rintro rfl
        rw [if_pos rfl] at hN hD
        rw [← hN, ← hD]
        exact mkB_frac (by omega) ho
      have kM : Hid (∀ w, Calls Try.prog 21 #[.agg #[.bool (sg n), .int .u64 (l0 n : Int), .int .u64 (l1 n : Int), .int .u64 (l2 n : Int), .int .u64 (l3 n : Int)], .agg #[.bool (sg d), .int .u64 (l0 d : Int), .int .u64 (l1 d : Int), .int .u64 (l2 d : Int), .int .u64 (l3 d : Int)]] w (Ret (.tuple #[.agg #[.bool (sg N), .int .u64 (l0 N : Int), .int .u64 (l1 N : Int), .int .u64 (l2 N : Int), .int .u64 (l3 N : Int), .bool (sg D), .int .u64 (l0 D : Int), .int .u64 (l1 D : Int), .int .u64 (l2 D : Int), .int .u64 (l3 D : Int)], .bool o]) w)) := fun w => h_make fn (by unfold F256; omega) (by omega) ho hN hD w
      have kO : Hid (∀ w, Calls Try.prog 92 #[.int .i64 1] w (Ret (.agg #[.bool (sg 1), .int .u64 (l0 1 : Int), .int .u64 (l1 1 : Int), .int .u64 (l2 1 : Int), .int .u64 (l3 1 : Int), .bool (sg 1), .int .u64 (l0 1 : Int), .int .u64 (l1 1 : Int), .int .u64 (l2 1 : Int), .int .u64 (l3 1 : Int)]) w)) := fun w => h_of (by omega) (by omega) w
      clear ho hN hD
      obtain ⟨xP10, xP11, xP12, xP13, xP14, xP1f0, xP1f1, xP1f2, xP1f3, xP1f4⟩ := five_cells P1; obtain ⟨xP20, xP21, xP22, xP23, xP24, xP2f0, xP2f1, xP2f2, xP2f3, xP2f4⟩ := five_cells P2
      go_upto_region 7 with (go_at_call 21; (with_reducible refine (kM.out _).mono ?_); rintro e' w11 ⟨rfl, hE⟩; have P0 := P0.ext hE; have P1 := P1.ext hE; have P2 := P2.ext hE; have UU := hide (UU.out.more hE); obtain ⟨xP00, xP01, xP02, xP03, xP04, xP05, xP06, xP07, xP08, xP09, xP0f0, xP0f1, xP0f2, xP0f3, xP0f4, xP0f5, xP0f6, xP0f7, xP0f8, xP0f9⟩ := ten_cells P0; have T8 := T7.ext hE; clear hE T7)
      have P5 : Box10 (w11.alloc (.cells #[.bool (sg N), .int .u64 (l0 N : Int), .int .u64 (l1 N : Int), .int .u64 (l2 N : Int), .int .u64 (l3 N : Int), .bool (sg D), .int .u64 (l0 D : Int), .int .u64 (l1 D : Int), .int .u64 (l2 D : Int), .int .u64 (l3 D : Int)] 35)) w11.heap.size (sg N) (l0 N) (l1 N) (l2 N) (l3 N) (sg D) (l0 D) (l1 D) (l2 D) (l3 D) := heap_alloc_new w11 _
      have hE := ext_alloc w11 (.cells #[.bool (sg N), .int .u64 (l0 N : Int), .int .u64 (l1 N : Int), .int .u64 (l2 N : Int), .int .u64 (l3 N : Int), .bool (sg D), .int .u64 (l0 D : Int), .int .u64 (l1 D : Int), .int .u64 (l2 D : Int), .int .u64 (l3 D : Int)] 35)
      have lP0 := P0.lt
      have P0 := P0.ext hE
      have UU := hide (UU.out.more hE)
      have T9 := T8.ext hE
      generalize w11.alloc (.cells #[.bool (sg N), .int .u64 (l0 N : Int), .int .u64 (l1 N : Int), .int .u64 (l2 N : Int), .int .u64 (l3 N : Int), .bool (sg D), .int .u64 (l0 D : Int), .int .u64 (l1 D : Int), .int .u64 (l2 D : Int), .int .u64 (l3 D : Int)] 35) = W11 at *
      generalize w11.heap.size = g5 at *
      clear hE T8
      obtain ⟨xP00, xP01, xP02, xP03, xP04, xP05, xP06, xP07, xP08, xP09, xP0f0, xP0f1, xP0f2, xP0f3, xP0f4, xP0f5, xP0f6, xP0f7, xP0f8, xP0f9⟩ := ten_cells P0; obtain ⟨xP50, xP51, xP52, xP53, xP54, xP55, xP56, xP57, xP58, xP59, xP5f0, xP5f1, xP5f2, xP5f3, xP5f4, xP5f5, xP5f6, xP5f7, xP5f8, xP5f9⟩ := ten_cells P5
      cases o
      · go_wp2_with (go_at_call 92; (with_reducible refine (kO.out _).mono ?_); rintro e' w12 ⟨rfl, hE⟩; have P0 := P0.ext hE; have UU := hide (UU.out.more hE); have TA := T9.ext hE; obtain ⟨xP00, xP01, xP02, xP03, xP04, xP05, xP06, xP07, xP08, xP09, xP0f0, xP0f1, xP0f2, xP0f3, xP0f4, xP0f5, xP0f6, xP0f7, xP0f8, xP0f9⟩ := ten_cells P0; clear hE T9)
        all_goals exact bodyPost_ret (v := .agg #[.bool (sg 1), .int .u64 (l0 1 : Int), .int .u64 (l1 1 : Int), .int .u64 (l2 1 : Int), .int .u64 (l3 1 : Int), .bool (sg 1), .int .u64 (l0 1 : Int), .int .u64 (l1 1 : Int), .int .u64 (l2 1 : Int), .int .u64 (l3 1 : Int)]) (by simp [results, Try.results37, go_sem, xP00, xP01, xP02, xP03, xP04, xP05, xP06, xP07, xP08, xP09]) rfl ⟨1, 1, rfl, by unfold Frac; decide, TA.ten hbw _ _ _ _ _ _ _ _ _ _, UU.out.ten hWw _ _ _ _ _ _ _ _ _ _⟩
      · have hF := hide (hF.out rfl)
        go_wp2_with fail
        all_goals exact bodyPost_ret (v := .agg #[.bool (sg N), .int .u64 (l0 N : Int), .int .u64 (l1 N : Int), .int .u64 (l2 N : Int), .int .u64 (l3 N : Int), .bool (sg D), .int .u64 (l0 D : Int), .int .u64 (l1 D : Int), .int .u64 (l2 D : Int), .int .u64 (l3 D : Int)]) (by simp [results, Try.results37, go_sem, xP00, xP01, xP02, xP03, xP04, xP05, xP06, xP07, xP08, xP09]) rfl ⟨N, D, rfl, hF.out trivial, T9.ten hbw _ _ _ _ _ _ _ _ _ _, UU.out.ten hWw _ _ _ _ _ _ _ _ _ _⟩
end Go.Proofs.Ytbnbkondbdakeaa
