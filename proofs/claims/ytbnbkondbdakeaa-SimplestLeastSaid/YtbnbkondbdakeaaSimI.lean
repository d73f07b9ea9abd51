/- The statements about layer 4: the interval that the tape makes. Conditions: the numbers of the tape lie in memory that was there. -/
import Derived.Test.YtbnbkondbdakeaaSimG
import Derived.Test.YtbnbkondbdakeaaTapR
namespace Go.Proofs.Ytbnbkondbdakeaa
set_option linter.unusedVariables false
set_option linter.unusedSimpArgs false
open Go Go.RowKit Go.Sort
attribute [local go_sem] qUpon putAll slotV
theorem Same.upd' {kd : List Tag} {tgt : Nat → Nat} {b : Nat} {W0 W w : World} (h : Same kd tgt W w) (k : Upd b W0 W) (hc : ∀ c, Tag.so c ∈ kd → W0.heap.size ≤ tgt c) : Upd b W0 w :=
  ⟨h.1.trans k.1, h.2.1.trans k.2.1, h.2.2.1.trans k.2.2.1, Nat.le_trans k.2.2.2.1 h.2.2.2.1, fun i hi hn => (h.2.2.2.2 i (Nat.lt_of_lt_of_le hi k.2.2.2.1) (fun c hc' e => by have := hc c hc'; omega)).trans (k.2.2.2.2 i hi hn)⟩
theorem Same.tape' {kd : List Tag} {tgt : Nat → Nat} {B b : Nat} {W w : World} (h : Same kd tgt W w) (k : TapeOk B W b) (hc : ∀ c, Tag.so c ∈ kd → b < tgt c) : TapeOk B w b :=
  k.below ⟨h.1, h.2.1, h.2.2.1, h.2.2.2.1, fun j hj => h.2.2.2.2 j (by have := k.2.1; omega) (fun c hc' e => by have := hc c hc'; omega)⟩
def NearPost (B b : Nat) (W : World) (e : Ending) (w' : World) : Prop := ∃ n1 d1 n2 d2 : Int, e = .returned (.tuple #[.agg #[.bool (sg n1), .int .u64 (l0 n1 : Int), .int .u64 (l1 n1 : Int), .int .u64 (l2 n1 : Int), .int .u64 (l3 n1 : Int), .bool (sg d1), .int .u64 (l0 d1 : Int), .int .u64 (l1 d1 : Int), .int .u64 (l2 d1 : Int), .int .u64 (l3 d1 : Int)], .agg #[.bool (sg n2), .int .u64 (l0 n2 : Int), .int .u64 (l1 n2 : Int), .int .u64 (l2 n2 : Int), .int .u64 (l3 n2 : Int), .bool (sg d2), .int .u64 (l0 d2 : Int), .int .u64 (l1 d2 : Int), .int .u64 (l2 d2 : Int), .int .u64 (l3 d2 : Int)]]) ∧ Frac n1 d1 ∧ Frac n2 d2 ∧ n1 * d2 ≤ n2 * d1 ∧ TapeOk B w' b ∧ Upd b W w'
/-- Both fractions lie in their boxes. -/
def NearMid (B b : Nat) (W : World) (g2 g3 g4 g5 : Nat) (wx : World) : Prop := ∃ n1 d1 n2 d2 : Int, Frac n1 d1 ∧ Frac n2 d2 ∧ Box10 wx g2 false 0 0 0 0 false 0 0 0 0 ∧ Box10 wx g3 false 0 0 0 0 false 0 0 0 0 ∧ Box10 wx g4 (sg n1) (l0 n1) (l1 n1) (l2 n1) (l3 n1) (sg d1) (l0 d1) (l1 d1) (l2 d1) (l3 d1) ∧ Box10 wx g5 (sg n2) (l0 n2) (l1 n2) (l2 n2) (l3 n2) (sg d2) (l0 d2) (l1 d2) (l2 d2) (l3 d2) ∧ TapeOk B wx b ∧ Upd b W wx
def NearEnd (B b : Nat) (W : World) (g2 g3 g4 g5 : Nat) (wx : World) : Prop := ∃ n1 d1 n2 d2 : Int, Frac n1 d1 ∧ Frac n2 d2 ∧ n1 * d2 ≤ n2 * d1 ∧ Box10 wx g2 false 0 0 0 0 false 0 0 0 0 ∧ Box10 wx g3 false 0 0 0 0 false 0 0 0 0 ∧ Box10 wx g4 (sg n1) (l0 n1) (l1 n1) (l2 n1) (l3 n1) (sg d1) (l0 d1) (l1 d1) (l2 d1) (l3 d1) ∧ Box10 wx g5 (sg n2) (l0 n2) (l1 n2) (l2 n2) (l3 n2) (sg d2) (l0 d2) (l1 d2) (l2 d2) (l3 d2) ∧ TapeOk B wx b ∧ Upd b W wx
/-- The sum lies in its box, the rest is as it was. -/
def NearSum (B b : Nat) (W : World) (g2 g3 g4 g5 g7 g9 : Nat) (n1 d1 n2 d2 y : Int) (wx : World) : Prop := ∃ z : Int, z.natAbs < 340282366920938463463374607431768211456000 ∧ Box10 wx g2 false 0 0 0 0 false 0 0 0 0 ∧ Box10 wx g3 false 0 0 0 0 false 0 0 0 0 ∧ Box10 wx g4 (sg n1) (l0 n1) (l1 n1) (l2 n1) (l3 n1) (sg d1) (l0 d1) (l1 d1) (l2 d1) (l3 d1) ∧ Box10 wx g5 (sg n2) (l0 n2) (l1 n2) (l2 n2) (l3 n2) (sg d2) (l0 d2) (l1 d2) (l2 d2) (l3 d2) ∧ Box wx g7 (sg z) (l0 z) (l1 z) (l2 z) (l3 z) ∧ Box wx g9 (sg y) (l0 y) (l1 y) (l2 y) (l3 y) ∧ TapeOk B wx b ∧ Upd b W wx
set_option maxRecDepth 100000 in
set_option maxHeartbeats 8000000 in
theorem l_near (B b : Nat) (W w : World) (hT : TapeOk B w b) (hW : Upd b W w) : Calls Try.prog 24 #[.pointer (some ⟨b, 0, none⟩)] w (NearPost B b W) := by
  have hbw := hT.2.1
  have hWw := hW.2.2.2.1
  have H2 := two_blocks w (.cells #[.bool false, .int .u64 0, .int .u64 0, .int .u64 0, .int .u64 0, .bool false, .int .u64 0, .int .u64 0, .int .u64 0, .int .u64 0] 35) (.cells #[.bool false, .int .u64 0, .int .u64 0, .int .u64 0, .int .u64 0, .bool false, .int .u64 0, .int .u64 0, .int .u64 0, .int .u64 0] 35)
  obtain ⟨W0, hW0⟩ : ∃ W0, W0 = ((w.alloc (.cells #[.bool false, .int .u64 0, .int .u64 0, .int .u64 0, .int .u64 0, .bool false, .int .u64 0, .int .u64 0, .int .u64 0, .int .u64 0] 35)).alloc (.cells #[.bool false, .int .u64 0, .int .u64 0, .int .u64 0, .int .u64 0, .bool false, .int .u64 0, .int .u64 0, .int .u64 0, .int .u64 0] 35)) := ⟨_, rfl⟩
  have E0 : Ext w W0 := by rw [hW0]; exact (ext_alloc _ _).trans (ext_alloc _ _)
  rw [← hW0] at H2
  have T0 := hT.ext E0
  have UU := hide (hW.more E0)
  obtain ⟨P2, P3⟩ : Box10 W0 w.heap.size false 0 0 0 0 false 0 0 0 0 ∧ Box10 W0 (w.heap.size + 1) false 0 0 0 0 false 0 0 0 0 := H2
  have HW := hide hW0
  clear hW0 hT hW E0
  have i1000 : I64 1000 := ⟨by omega, by omega⟩
  have i3 : I64 3 := ⟨by omega, by omega⟩
  go_enter Try.func24, Try.ntmps24
  go_upto_region 1 with fail
  rw [← HW.out]
  clear HW
  obtain ⟨gz, hg⟩ : ∃ g, w.heap.size = g := ⟨_, rfl⟩
  rw [hg] at P2 P3 hbw hWw ⊢
  clear hg
  have neP2 : gz ≠ b := by omega
  have neP3 : gz + 1 ≠ b := by omega
  go_upto_region 2 with (first
    | (go_at_call 37; (with_reducible refine (t_ratio B b _ _ T0 (Upd.refl _ _)).mono ?_); rintro e w1 ⟨n1, d1, rfl, hF1, T1, hU⟩; have HF1 := hide hF1; have P2 := P2.upd hU neP2; have P3 := P3.upd hU neP3; have UU := hide (UU.out.trans hU); clear T0 hU hF1)
    | (go_at_call 37; (with_reducible refine (t_ratio B b _ _ T1 (Upd.refl _ _)).mono ?_); rintro e w2 ⟨n2, d2, rfl, hF2, T2, hU⟩; have HF2 := hide hF2; have P2 := P2.upd hU neP2; have P3 := P3.upd hU neP3; have UU := hide (UU.out.trans hU); clear T1 hU hF2))
  have hb2 := T2.2.1
  have H2 := two_blocks w2 (.cells #[.bool (sg n1), .int .u64 (l0 n1 : Int), .int .u64 (l1 n1 : Int), .int .u64 (l2 n1 : Int), .int .u64 (l3 n1 : Int), .bool (sg d1), .int .u64 (l0 d1 : Int), .int .u64 (l1 d1 : Int), .int .u64 (l2 d1 : Int), .int .u64 (l3 d1 : Int)] 35) (.cells #[.bool (sg n2), .int .u64 (l0 n2 : Int), .int .u64 (l1 n2 : Int), .int .u64 (l2 n2 : Int), .int .u64 (l3 n2 : Int), .bool (sg d2), .int .u64 (l0 d2 : Int), .int .u64 (l1 d2 : Int), .int .u64 (l2 d2 : Int), .int .u64 (l3 d2 : Int)] 35)
  have lP2 := P2.lt
  have lP3 := P3.lt
  have hE := ((ext_alloc w2 (.cells #[.bool (sg n1), .int .u64 (l0 n1 : Int), .int .u64 (l1 n1 : Int), .int .u64 (l2 n1 : Int), .int .u64 (l3 n1 : Int), .bool (sg d1), .int .u64 (l0 d1 : Int), .int .u64 (l1 d1 : Int), .int .u64 (l2 d1 : Int), .int .u64 (l3 d1 : Int)] 35)).trans (ext_alloc _ (.cells #[.bool (sg n2), .int .u64 (l0 n2 : Int), .int .u64 (l1 n2 : Int), .int .u64 (l2 n2 : Int), .int .u64 (l3 n2 : Int), .bool (sg d2), .int .u64 (l0 d2 : Int), .int .u64 (l1 d2 : Int), .int .u64 (l2 d2 : Int), .int .u64 (l3 d2 : Int)] 35)))
  have P2 := P2.ext hE
  have P3 := P3.ext hE
  have T2 := T2.ext hE
  have UU := hide (UU.out.more hE)
  clear hE
  obtain ⟨W1, hW⟩ : ∃ W, W = ((w2.alloc (.cells #[.bool (sg n1), .int .u64 (l0 n1 : Int), .int .u64 (l1 n1 : Int), .int .u64 (l2 n1 : Int), .int .u64 (l3 n1 : Int), .bool (sg d1), .int .u64 (l0 d1 : Int), .int .u64 (l1 d1 : Int), .int .u64 (l2 d1 : Int), .int .u64 (l3 d1 : Int)] 35)).alloc (.cells #[.bool (sg n2), .int .u64 (l0 n2 : Int), .int .u64 (l1 n2 : Int), .int .u64 (l2 n2 : Int), .int .u64 (l3 n2 : Int), .bool (sg d2), .int .u64 (l0 d2 : Int), .int .u64 (l1 d2 : Int), .int .u64 (l2 d2 : Int), .int .u64 (l3 d2 : Int)] 35)) := ⟨_, rfl⟩
  rw [← hW] at H2 UU P2 P3 T2 ⊢
  obtain ⟨g2, hg⟩ : ∃ g, w2.heap.size = g := ⟨_, rfl⟩
  rw [hg] at H2 lP2 lP3 ⊢
  obtain ⟨P4, P5⟩ : Box10 W1 g2 (sg n1) (l0 n1) (l1 n1) (l2 n1) (l3 n1) (sg d1) (l0 d1) (l1 d1) (l2 d1) (l3 d1) ∧ Box10 W1 (g2 + 1) (sg n2) (l0 n2) (l1 n2) (l2 n2) (l3 n2) (sg d2) (l0 d2) (l1 d2) (l2 d2) (l3 d2) := H2
  clear hW hg
  have ngP2P4 : gz ≠ g2 := by omega
  have ngP2P5 : gz ≠ g2 + 1 := by omega
  have ngP3P4 : gz + 1 ≠ g2 := by omega
  have ngP3P5 : gz + 1 ≠ g2 + 1 := by omega
  have neP4 : g2 ≠ b := by omega
  have neP5 : g2 + 1 ≠ b := by omega
  go_upto_if 18 with (go_at_call 60; (with_reducible refine (t_bool B b 2 _ _ (by omega) (by omega) T2 (Upd.refl _ _)).mono ?_); rintro e w3 ⟨v, rfl, T3, hU⟩; have P2 := P2.upd hU neP2; have P3 := P3.upd hU neP3; have P4 := P4.upd hU neP4; have P5 := P5.upd hU neP5; have UU := hide (UU.out.trans hU); clear T2 hU)
  go_cut [] (fun wx => NearMid B b W gz (gz + 1) g2 (g2 + 1) wx)
  case first =>
    cases v
    · go_wp2_with fail
      all_goals go_meet
      all_goals exact ⟨n1, d1, n2, d2, HF1.out, HF2.out, P2, P3, P4, P5, T3, UU.out⟩
    · have hb3 := T3.2.1
      go_upto_region 4 with (first
        | (go_at_call 19; (with_reducible refine (t_next B b 1000 _ i1000 T3).mono ?_); rintro e w4 ⟨u, rfl, hu, T4, hU⟩; have P2 := P2.upd hU neP2; have P3 := P3.upd hU neP3; have P4 := P4.upd hU neP4; have P5 := P5.upd hU neP5; have UU := hide (UU.out.trans hU); have u0 := hu.1; have u1 := hu.2.1 (by omega); clear T3 hU hu; obtain ⟨f, hf⟩ : ∃ f, 1 + u = f := ⟨_, rfl⟩; have kO : Hid (∀ w, Calls Try.prog 17 #[.int .i64 (1 + u)] w (Ret (.agg #[.bool (sg f), .int .u64 (l0 f : Int), .int .u64 (l1 f : Int), .int .u64 (l2 f : Int), .int .u64 (l3 f : Int)]) w)) := (fun w => by rw [hf]; exact d_ofi (by omega) (by omega) w); have f1 : 1 ≤ f := (by omega); have f2 : f ≤ 1000 := (by omega); clear hf)
        | (go_at_call 17; (with_reducible refine (kO.out _).mono ?_); rintro e w5 ⟨rfl, hE⟩; have P2 := P2.ext hE; have P3 := P3.ext hE; have P4 := P4.ext hE; have P5 := P5.ext hE; have UU := hide (UU.out.more hE); have T4 := T4.ext hE; clear hE kO))
      have hb5 := T4.2.1
      clear u0 u1
      have H2 := heap_alloc_new w5 (.cells #[.bool (sg f), .int .u64 (l0 f : Int), .int .u64 (l1 f : Int), .int .u64 (l2 f : Int), .int .u64 (l3 f : Int)] 25)
      have lP2 := P2.lt
      have lP3 := P3.lt
      have lP4 := P4.lt
      have lP5 := P5.lt
      have hE := (ext_alloc w5 (.cells #[.bool (sg f), .int .u64 (l0 f : Int), .int .u64 (l1 f : Int), .int .u64 (l2 f : Int), .int .u64 (l3 f : Int)] 25))
      have P2 := P2.ext hE
      have P3 := P3.ext hE
      have P4 := P4.ext hE
      have P5 := P5.ext hE
      have T4 := T4.ext hE
      have UU := hide (UU.out.more hE)
      clear hE
      obtain ⟨W3, hW⟩ : ∃ W, W = (w5.alloc (.cells #[.bool (sg f), .int .u64 (l0 f : Int), .int .u64 (l1 f : Int), .int .u64 (l2 f : Int), .int .u64 (l3 f : Int)] 25)) := ⟨_, rfl⟩
      rw [← hW] at H2 UU P2 P3 P4 P5 T4 ⊢
      obtain ⟨g4, hg⟩ : ∃ g, w5.heap.size = g := ⟨_, rfl⟩
      rw [hg] at H2 lP2 lP3 lP4 lP5 ⊢
      have P6 : Box W3 g4 (sg f) (l0 f) (l1 f) (l2 f) (l3 f) := H2
      clear hW hg
      have ngP2P6 : gz ≠ g4 := by omega
      have ngP3P6 : gz + 1 ≠ g4 := by omega
      have ngP4P6 : g2 ≠ g4 := by omega
      have ngP5P6 : g2 + 1 ≠ g4 := by omega
      have neP6 : g4 ≠ b := by omega
      obtain ⟨x, hx⟩ : ∃ x, n1 * f = x := ⟨_, rfl⟩
      obtain ⟨y, hy⟩ : ∃ y, d1 * f = y := ⟨_, rfl⟩
      have hF1 := HF1.out
      have bx : x.natAbs < 170141183460469231731687303715884105729000 := by
        rw [← hx, Int.natAbs_mul]
        have h1 := hF1.2.1
        exact Nat.lt_of_le_of_lt (Nat.mul_le_mul (Nat.le_of_lt_succ (Nat.lt_succ_of_lt h1)) (show f.natAbs ≤ 1000 by omega)) (by decide)
      have by' : y.natAbs < 170141183460469231731687303715884105729000 := by
        rw [← hy, Int.natAbs_mul]
        have h1 := hF1.2.2.1
        exact Nat.lt_of_le_of_lt (Nat.mul_le_mul (Nat.le_of_lt_succ (Nat.lt_succ_of_lt h1)) (show f.natAbs ≤ 1000 by omega)) (by decide)
      have y0 : 0 < y := by rw [← hy]; exact Int.mul_pos hF1.1 (by omega)
      have ff : F256 f := by unfold F256; omega
      have fx : F256 x := by unfold F256; omega
      have fy : F256 y := by unfold F256; omega
      have kM : Hid (∀ w, Calls Try.prog 33 #[.agg #[.bool (sg n1), .int .u64 (l0 n1 : Int), .int .u64 (l1 n1 : Int), .int .u64 (l2 n1 : Int), .int .u64 (l3 n1 : Int)], .agg #[.bool (sg f), .int .u64 (l0 f : Int), .int .u64 (l1 f : Int), .int .u64 (l2 f : Int), .int .u64 (l3 f : Int)]] w (Ret (.tuple #[.agg #[.bool (sg x), .int .u64 (l0 x : Int), .int .u64 (l1 x : Int), .int .u64 (l2 x : Int), .int .u64 (l3 x : Int)], .bool true]) w)) := fun w => d_mul hF1.fn ff hx fx w
      have kN : Hid (∀ w, Calls Try.prog 33 #[.agg #[.bool (sg d1), .int .u64 (l0 d1 : Int), .int .u64 (l1 d1 : Int), .int .u64 (l2 d1 : Int), .int .u64 (l3 d1 : Int)], .agg #[.bool (sg f), .int .u64 (l0 f : Int), .int .u64 (l1 f : Int), .int .u64 (l2 f : Int), .int .u64 (l3 f : Int)]] w (Ret (.tuple #[.agg #[.bool (sg y), .int .u64 (l0 y : Int), .int .u64 (l1 y : Int), .int .u64 (l2 y : Int), .int .u64 (l3 y : Int)], .bool true]) w)) := fun w => d_mul hF1.fd ff hy fy w
      have HX := hide bx
      have HY := hide (And.intro y0 fy)
      have HFX := hide fx
      clear hF1 bx by' y0 ff fx fy hx hy f1 f2
      obtain ⟨xP40, xP41, xP42, xP43, xP44, xP45, xP46, xP47, xP48, xP49, -⟩ := ten_cells P4; obtain ⟨xP60, xP61, xP62, xP63, xP64, -⟩ := five_cells P6
      go_upto_region 5 with (go_at_call 33; (with_reducible refine (kM.out _).mono ?_); rintro e w5 ⟨rfl, hE⟩; clear xP40 xP41 xP42 xP43 xP44 xP45 xP46 xP47 xP48 xP49 xP60 xP61 xP62 xP63 xP64; have P2 := P2.ext hE; have P3 := P3.ext hE; have P4 := P4.ext hE; have P5 := P5.ext hE; have P6 := P6.ext hE; have UU := hide (UU.out.more hE); have T4 := T4.ext hE; clear hE; obtain ⟨xP40, xP41, xP42, xP43, xP44, xP45, xP46, xP47, xP48, xP49, -⟩ := ten_cells P4; obtain ⟨xP60, xP61, xP62, xP63, xP64, -⟩ := five_cells P6)
      clear xP40 xP41 xP42 xP43 xP44 xP45 xP46 xP47 xP48 xP49 xP60 xP61 xP62 xP63 xP64
      have H2 := heap_alloc_new w5 (.cells #[.bool (sg x), .int .u64 (l0 x : Int), .int .u64 (l1 x : Int), .int .u64 (l2 x : Int), .int .u64 (l3 x : Int)] 25)
      have lP2 := P2.lt
      have lP3 := P3.lt
      have lP4 := P4.lt
      have lP5 := P5.lt
      have lP6 := P6.lt
      have hE := (ext_alloc w5 (.cells #[.bool (sg x), .int .u64 (l0 x : Int), .int .u64 (l1 x : Int), .int .u64 (l2 x : Int), .int .u64 (l3 x : Int)] 25))
      have P2 := P2.ext hE
      have P3 := P3.ext hE
      have P4 := P4.ext hE
      have P5 := P5.ext hE
      have P6 := P6.ext hE
      have T4 := T4.ext hE
      have UU := hide (UU.out.more hE)
      clear hE
      obtain ⟨W6, hW⟩ : ∃ W, W = (w5.alloc (.cells #[.bool (sg x), .int .u64 (l0 x : Int), .int .u64 (l1 x : Int), .int .u64 (l2 x : Int), .int .u64 (l3 x : Int)] 25)) := ⟨_, rfl⟩
      rw [← hW] at H2 UU P2 P3 P4 P5 P6 T4 ⊢
      obtain ⟨g7, hg⟩ : ∃ g, w5.heap.size = g := ⟨_, rfl⟩
      rw [hg] at H2 lP2 lP3 lP4 lP5 lP6 ⊢
      have P7 : Box W6 g7 (sg x) (l0 x) (l1 x) (l2 x) (l3 x) := H2
      clear hW hg
      have ngP2P7 : gz ≠ g7 := by omega
      have ngP3P7 : gz + 1 ≠ g7 := by omega
      have ngP4P7 : g2 ≠ g7 := by omega
      have ngP5P7 : g2 + 1 ≠ g7 := by omega
      have ngP6P7 : g4 ≠ g7 := by omega
      have hb6 := T4.2.1
      have neP7 : g7 ≠ b := by omega
      obtain ⟨xP40, xP41, xP42, xP43, xP44, xP45, xP46, xP47, xP48, xP49, -⟩ := ten_cells P4; obtain ⟨xP60, xP61, xP62, xP63, xP64, -⟩ := five_cells P6
      go_upto_region 6 with (go_at_call 33; (with_reducible refine (kN.out _).mono ?_); rintro e w8 ⟨rfl, hE⟩; clear xP40 xP41 xP42 xP43 xP44 xP45 xP46 xP47 xP48 xP49 xP60 xP61 xP62 xP63 xP64; have P2 := P2.ext hE; have P3 := P3.ext hE; have P4 := P4.ext hE; have P5 := P5.ext hE; have P6 := P6.ext hE; have P7 := P7.ext hE; have UU := hide (UU.out.more hE); have T4 := T4.ext hE; clear hE; obtain ⟨xP40, xP41, xP42, xP43, xP44, xP45, xP46, xP47, xP48, xP49, -⟩ := ten_cells P4; obtain ⟨xP60, xP61, xP62, xP63, xP64, -⟩ := five_cells P6)
      clear xP40 xP41 xP42 xP43 xP44 xP45 xP46 xP47 xP48 xP49 xP60 xP61 xP62 xP63 xP64
      have H2 := heap_alloc_new w8 (.cells #[.bool (sg y), .int .u64 (l0 y : Int), .int .u64 (l1 y : Int), .int .u64 (l2 y : Int), .int .u64 (l3 y : Int)] 25)
      have lP2 := P2.lt
      have lP3 := P3.lt
      have lP4 := P4.lt
      have lP5 := P5.lt
      have lP6 := P6.lt
      have lP7 := P7.lt
      have hE := (ext_alloc w8 (.cells #[.bool (sg y), .int .u64 (l0 y : Int), .int .u64 (l1 y : Int), .int .u64 (l2 y : Int), .int .u64 (l3 y : Int)] 25))
      have P2 := P2.ext hE
      have P3 := P3.ext hE
      have P4 := P4.ext hE
      have P5 := P5.ext hE
      have P6 := P6.ext hE
      have P7 := P7.ext hE
      have T4 := T4.ext hE
      have UU := hide (UU.out.more hE)
      clear hE
      obtain ⟨W9, hW⟩ : ∃ W, W = (w8.alloc (.cells #[.bool (sg y), .int .u64 (l0 y : Int), .int .u64 (l1 y : Int), .int .u64 (l2 y : Int), .int .u64 (l3 y : Int)] 25)) := ⟨_, rfl⟩
      rw [← hW] at H2 UU P2 P3 P4 P5 P6 P7 T4 ⊢
      obtain ⟨g10, hg⟩ : ∃ g, w8.heap.size = g := ⟨_, rfl⟩
      rw [hg] at H2 lP2 lP3 lP4 lP5 lP6 lP7 ⊢
      have P9 : Box W9 g10 (sg y) (l0 y) (l1 y) (l2 y) (l3 y) := H2
      clear hW hg
      have ngP2P9 : gz ≠ g10 := by omega
      have ngP3P9 : gz + 1 ≠ g10 := by omega
      have ngP4P9 : g2 ≠ g10 := by omega
      have ngP5P9 : g2 + 1 ≠ g10 := by omega
      have ngP6P9 : g4 ≠ g10 := by omega
      have ngP7P9 : g7 ≠ g10 := by omega
      have hb7 := T4.2.1
      have neP9 : g10 ≠ b := by omega
      go_cut [] (fun wx => NearSum B b W gz (gz + 1) g2 (g2 + 1) g7 g10 n1 d1 n2 d2 y wx)
      case first =>
        obtain ⟨xP70, xP71, xP72, xP73, xP74, xP7f0, xP7f1, xP7f2, xP7f3, xP7f4⟩ := five_cells P7
        have kadd : ∀ u : Int, 0 ≤ u → u < 3 → ∃ z : Int, z.natAbs < 340282366920938463463374607431768211456000 ∧ (∀ w, Calls Try.prog 17 #[.int .i64 u] w (Ret (.agg #[.bool (sg u), .int .u64 (l0 u : Int), .int .u64 (l1 u : Int), .int .u64 (l2 u : Int), .int .u64 (l3 u : Int)]) w)) ∧ (∀ w, Calls Try.prog 72 #[.agg #[.bool (sg x), .int .u64 (l0 x : Int), .int .u64 (l1 x : Int), .int .u64 (l2 x : Int), .int .u64 (l3 x : Int)], .agg #[.bool (sg u), .int .u64 (l0 u : Int), .int .u64 (l1 u : Int), .int .u64 (l2 u : Int), .int .u64 (l3 u : Int)]] w (Ret (.tuple #[.agg #[.bool (sg z), .int .u64 (l0 z : Int), .int .u64 (l1 z : Int), .int .u64 (l2 z : Int), .int .u64 (l3 z : Int)], .bool true]) w)) := by
          intro u u0 u1
          have hx := HX.out
          exact ⟨x + u, by omega, fun w => d_ofi (by omega) (by omega) w, fun w => d_add HFX.out (by unfold F256; omega) rfl (by unfold F256; omega) w⟩
        have KA := hide kadd
        clear kadd
        go_region_with (first
          | (go_at_call 19; (with_reducible refine (t_next B b 3 _ i3 (by first | exact T4 | exact T4.ext (ext_drew _))).mono ?_); rintro e w8 ⟨u, rfl, hu, T5, hU⟩; have hU : Upd b W9 w8 := (by first | exact hU | exact (Ext.upd (ext_drew _) b).trans hU); have P2 := P2.upd hU neP2; have P3 := P3.upd hU neP3; have P4 := P4.upd hU neP4; have P5 := P5.upd hU neP5; have P7 := P7.upd hU neP7; have P9 := P9.upd hU neP9; have UU := hide (UU.out.trans hU); obtain ⟨xP70, xP71, xP72, xP73, xP74, xP7f0, xP7f1, xP7f2, xP7f3, xP7f4⟩ := five_cells P7; obtain ⟨z, hz, kO, kA⟩ := KA.out u hu.1 (hu.2.1 (by omega)); have HZ := hide hz; have kO := hide kO; have kA := hide kA; clear T4 hU hu hz)
          | (go_at_call 17; (with_reducible refine (kO.out _).mono ?_); rintro e w9 ⟨rfl, hE⟩; have P2 := P2.ext hE; have P3 := P3.ext hE; have P4 := P4.ext hE; have P5 := P5.ext hE; have P7 := P7.ext hE; have P9 := P9.ext hE; have UU := hide (UU.out.more hE); have T5 := T5.ext hE; obtain ⟨xP70, xP71, xP72, xP73, xP74, xP7f0, xP7f1, xP7f2, xP7f3, xP7f4⟩ := five_cells P7; clear hE)
          | (go_at_call 72; (with_reducible refine (kA.out _).mono ?_); rintro e w10 ⟨rfl, hE⟩; have P2 := P2.ext hE; have P3 := P3.ext hE; have P4 := P4.ext hE; have P5 := P5.ext hE; have P7 := P7.ext hE; have P9 := P9.ext hE; have UU := hide (UU.out.more hE); have T5 := T5.ext hE; obtain ⟨xP70, xP71, xP72, xP73, xP74, xP7f0, xP7f1, xP7f2, xP7f3, xP7f4⟩ := five_cells P7; clear hE))
        all_goals go_wp2_with fail
        all_goals go_meet
        all_goals exact ⟨z, HZ.out, P2.far (by omega) _ _ _ _ _, P3.far (by omega) _ _ _ _ _, P4.far (by omega) _ _ _ _ _, P5.far (by omega) _ _ _ _ _, P7.put, P9.far (by omega) _ _ _ _ _, ((((T5.store (k := 0) (by omega) _).store (k := 1) (by omega) _).store (k := 2) (by omega) _).store (k := 3) (by omega) _).store (k := 4) (by omega) _, ((((UU.out.store (k := 0) (g := g7) (by omega) _).store (k := 1) (g := g7) (by omega) _).store (k := 2) (g := g7) (by omega) _).store (k := 3) (g := g7) (by omega) _).store (k := 4) (g := g7) (by omega) _⟩
      case rest =>
        clear P2 P3 P4 P5 P7 P9 UU T4
        obtain ⟨z, hz, P2, P3, P4, P5, P7, P9, T6, hUU⟩ := hcut
        have UU := hide hUU
        clear hUU
        have fz : F256 z := by unfold F256; omega
        obtain ⟨o, ho⟩ : ∃ o, mkB z y = o := ⟨_, rfl⟩
        obtain ⟨N, hN⟩ : ∃ N, (if o then numR z y else 0) = N := ⟨_, rfl⟩
        obtain ⟨D, hD⟩ : ∃ N, (if o then denR z y else 0) = N := ⟨_, rfl⟩
        have hy := HY.out
        have HK : Hid (o = true → Frac N D) := by
          intro e
          have h := mkB_frac (by omega) (ho.trans e)
          rw [← hN, ← hD, e]; simpa using h
        have kK : Hid (∀ w, Calls Try.prog 21 #[.agg #[.bool (sg z), .int .u64 (l0 z : Int), .int .u64 (l1 z : Int), .int .u64 (l2 z : Int), .int .u64 (l3 z : Int)], .agg #[.bool (sg y), .int .u64 (l0 y : Int), .int .u64 (l1 y : Int), .int .u64 (l2 y : Int), .int .u64 (l3 y : Int)]] w (Ret (.tuple #[.agg #[.bool (sg N), .int .u64 (l0 N : Int), .int .u64 (l1 N : Int), .int .u64 (l2 N : Int), .int .u64 (l3 N : Int), .bool (sg D), .int .u64 (l0 D : Int), .int .u64 (l1 D : Int), .int .u64 (l2 D : Int), .int .u64 (l3 D : Int)], .bool o]) w)) := fun w => h_make fz hy.2 (by omega) ho hN hD w
        clear fz ho hN hD hy hz
        obtain ⟨xP70, xP71, xP72, xP73, xP74, -⟩ := five_cells P7; obtain ⟨xP90, xP91, xP92, xP93, xP94, -⟩ := five_cells P9
        go_upto_region 8 with (go_at_call 21; (with_reducible refine (kK.out _).mono ?_); rintro e w11 ⟨rfl, hE⟩; clear xP70 xP71 xP72 xP73 xP74 xP90 xP91 xP92 xP93 xP94; have P2 := P2.ext hE; have P3 := P3.ext hE; have P4 := P4.ext hE; have P5 := P5.ext hE; have P7 := P7.ext hE; have P9 := P9.ext hE; have UU := hide (UU.out.more hE); have T6 := T6.ext hE; clear hE; obtain ⟨xP70, xP71, xP72, xP73, xP74, -⟩ := five_cells P7; obtain ⟨xP90, xP91, xP92, xP93, xP94, -⟩ := five_cells P9)
        clear xP70 xP71 xP72 xP73 xP74 xP90 xP91 xP92 xP93 xP94
        have H2 := heap_alloc_new w11 (.cells #[.bool (sg N), .int .u64 (l0 N : Int), .int .u64 (l1 N : Int), .int .u64 (l2 N : Int), .int .u64 (l3 N : Int), .bool (sg D), .int .u64 (l0 D : Int), .int .u64 (l1 D : Int), .int .u64 (l2 D : Int), .int .u64 (l3 D : Int)] 35)
        have lP2 := P2.lt
        have lP3 := P3.lt
        have lP4 := P4.lt
        have lP5 := P5.lt
        have lP7 := P7.lt
        have lP9 := P9.lt
        have hE := (ext_alloc w11 (.cells #[.bool (sg N), .int .u64 (l0 N : Int), .int .u64 (l1 N : Int), .int .u64 (l2 N : Int), .int .u64 (l3 N : Int), .bool (sg D), .int .u64 (l0 D : Int), .int .u64 (l1 D : Int), .int .u64 (l2 D : Int), .int .u64 (l3 D : Int)] 35))
        have P2 := P2.ext hE
        have P3 := P3.ext hE
        have P4 := P4.ext hE
        have P5 := P5.ext hE
        have P7 := P7.ext hE
        have P9 := P9.ext hE
        have T6 := T6.ext hE
        have UU := hide (UU.out.more hE)
        clear hE
        obtain ⟨W12, hW⟩ : ∃ W, W = (w11.alloc (.cells #[.bool (sg N), .int .u64 (l0 N : Int), .int .u64 (l1 N : Int), .int .u64 (l2 N : Int), .int .u64 (l3 N : Int), .bool (sg D), .int .u64 (l0 D : Int), .int .u64 (l1 D : Int), .int .u64 (l2 D : Int), .int .u64 (l3 D : Int)] 35)) := ⟨_, rfl⟩
        rw [← hW] at H2 UU P2 P3 P4 P5 P7 P9 T6 ⊢
        obtain ⟨g13, hg⟩ : ∃ g, w11.heap.size = g := ⟨_, rfl⟩
        rw [hg] at H2 lP2 lP3 lP4 lP5 lP7 lP9 ⊢
        have P11 : Box10 W12 g13 (sg N) (l0 N) (l1 N) (l2 N) (l3 N) (sg D) (l0 D) (l1 D) (l2 D) (l3 D) := H2
        clear hW hg
        have ngP2P11 : gz ≠ g13 := by omega
        have ngP3P11 : gz + 1 ≠ g13 := by omega
        have ngP4P11 : g2 ≠ g13 := by omega
        have ngP5P11 : g2 + 1 ≠ g13 := by omega
        have ngP7P11 : g7 ≠ g13 := by omega
        have ngP9P11 : g10 ≠ g13 := by omega
        have hb8 := T6.2.1
        have neP11 : g13 ≠ b := by omega
        cases o
        · go_wp2_with fail
          all_goals go_meet
          all_goals exact ⟨n1, d1, n2, d2, HF1.out, HF2.out, P2, P3, P4, P5, T6, UU.out⟩
        · have HF3 := hide (HK.out rfl)
          clear HK
          obtain ⟨xP110, xP111, xP112, xP113, xP114, xP115, xP116, xP117, xP118, xP119, -⟩ := ten_cells P11; obtain ⟨xP50, xP51, xP52, xP53, xP54, xP55, xP56, xP57, xP58, xP59, xP5f0, xP5f1, xP5f2, xP5f3, xP5f4, xP5f5, xP5f6, xP5f7, xP5f8, xP5f9⟩ := ten_cells P5
          go_wp2_with fail
          all_goals go_meet
          all_goals exact ⟨n1, d1, N, D, HF1.out, HF3.out, P2.far10 (by omega) _ _ _ _ _ _ _ _ _ _, P3.far10 (by omega) _ _ _ _ _ _ _ _ _ _, P4.far10 (by omega) _ _ _ _ _ _ _ _ _ _, P5.put, ((((((((((T6.store (k := 0) (g := g2 + 1) (by omega) _).store (k := 1) (g := g2 + 1) (by omega) _).store (k := 2) (g := g2 + 1) (by omega) _).store (k := 3) (g := g2 + 1) (by omega) _).store (k := 4) (g := g2 + 1) (by omega) _).store (k := 5) (g := g2 + 1) (by omega) _).store (k := 6) (g := g2 + 1) (by omega) _).store (k := 7) (g := g2 + 1) (by omega) _).store (k := 8) (g := g2 + 1) (by omega) _).store (k := 9) (g := g2 + 1) (by omega) _), ((((((((((UU.out.store (k := 0) (g := g2 + 1) (by omega) _).store (k := 1) (g := g2 + 1) (by omega) _).store (k := 2) (g := g2 + 1) (by omega) _).store (k := 3) (g := g2 + 1) (by omega) _).store (k := 4) (g := g2 + 1) (by omega) _).store (k := 5) (g := g2 + 1) (by omega) _).store (k := 6) (g := g2 + 1) (by omega) _).store (k := 7) (g := g2 + 1) (by omega) _).store (k := 8) (g := g2 + 1) (by omega) _).store (k := 9) (g := g2 + 1) (by omega) _)⟩
  case rest =>
    clear P2 P3 P4 P5 UU T3 HF1 HF2
    obtain ⟨n1, d1, n2, d2, hF1, hF2, P2, P3, P4, P5, T7, hUU⟩ := hcut
    have UU := hide hUU
    obtain ⟨c, hc⟩ : ∃ r, cmpI (n1 * d2) (n2 * d1) = r := ⟨_, rfl⟩
    have hc0 := (cmpI_lt hc).2.2
    have kC : Hid (∀ w, Calls Try.prog 29 #[.agg #[.bool (sg n1), .int .u64 (l0 n1 : Int), .int .u64 (l1 n1 : Int), .int .u64 (l2 n1 : Int), .int .u64 (l3 n1 : Int), .bool (sg d1), .int .u64 (l0 d1 : Int), .int .u64 (l1 d1 : Int), .int .u64 (l2 d1 : Int), .int .u64 (l3 d1 : Int)], .agg #[.bool (sg n2), .int .u64 (l0 n2 : Int), .int .u64 (l1 n2 : Int), .int .u64 (l2 n2 : Int), .int .u64 (l3 n2 : Int), .bool (sg d2), .int .u64 (l0 d2 : Int), .int .u64 (l1 d2 : Int), .int .u64 (l2 d2 : Int), .int .u64 (l3 d2 : Int)]] w (Ret (.int .i64 c) w)) := fun w => h_cmp hF1 hF2 hc w
    have HF := hide (And.intro hF1 hF2)
    have HC := hide hc0
    clear hUU hF1 hF2 hc hc0
    obtain ⟨xP40, xP41, xP42, xP43, xP44, xP45, xP46, xP47, xP48, xP49, -⟩ := ten_cells P4; obtain ⟨xP50, xP51, xP52, xP53, xP54, xP55, xP56, xP57, xP58, xP59, -⟩ := ten_cells P5
    go_upto_if 56 with (go_at_call 29; (with_reducible refine (kC.out _).mono ?_); rintro e w3 ⟨rfl, hE⟩; clear xP40 xP41 xP42 xP43 xP44 xP45 xP46 xP47 xP48 xP49 xP50 xP51 xP52 xP53 xP54 xP55 xP56 xP57 xP58 xP59; have P2 := P2.ext hE; have P3 := P3.ext hE; have P4 := P4.ext hE; have P5 := P5.ext hE; have UU := hide (UU.out.more hE); have T7 := T7.ext hE; clear hE; obtain ⟨xP40, xP41, xP42, xP43, xP44, xP45, xP46, xP47, xP48, xP49, -⟩ := ten_cells P4; obtain ⟨xP50, xP51, xP52, xP53, xP54, xP55, xP56, xP57, xP58, xP59, -⟩ := ten_cells P5)
    clear xP40 xP41 xP42 xP43 xP44 xP45 xP46 xP47 xP48 xP49 xP50 xP51 xP52 xP53 xP54 xP55 xP56 xP57 xP58 xP59
    go_cut [] (fun wx => NearEnd B b W gz (gz + 1) g2 (g2 + 1) wx)
    case first =>
      by_cases hp : 0 < c
      · have HL : Hid (n2 * d1 ≤ n1 * d2) := Int.le_of_lt (HC.out.1 hp)
        obtain ⟨xP40, xP41, xP42, xP43, xP44, xP45, xP46, xP47, xP48, xP49, xP4f0, xP4f1, xP4f2, xP4f3, xP4f4, xP4f5, xP4f6, xP4f7, xP4f8, xP4f9⟩ := ten_cells P4; obtain ⟨xP50, xP51, xP52, xP53, xP54, xP55, xP56, xP57, xP58, xP59, xP5f0, xP5f1, xP5f2, xP5f3, xP5f4, xP5f5, xP5f6, xP5f7, xP5f8, xP5f9⟩ := ten_cells P5
        go_wp2_with fail
        all_goals go_meet
        all_goals exact ⟨n2, d2, n1, d1, HF.out.2, HF.out.1, HL.out, ((P2.far10 (by omega) _ _ _ _ _ _ _ _ _ _).far10 (by omega) _ _ _ _ _ _ _ _ _ _), ((P3.far10 (by omega) _ _ _ _ _ _ _ _ _ _).far10 (by omega) _ _ _ _ _ _ _ _ _ _), (P4.put.far10 (by omega) _ _ _ _ _ _ _ _ _ _), (P5.far10 (by omega) _ _ _ _ _ _ _ _ _ _).put, ((((((((((((((((((((T7.store (k := 0) (g := g2) (by omega) _).store (k := 1) (g := g2) (by omega) _).store (k := 2) (g := g2) (by omega) _).store (k := 3) (g := g2) (by omega) _).store (k := 4) (g := g2) (by omega) _).store (k := 5) (g := g2) (by omega) _).store (k := 6) (g := g2) (by omega) _).store (k := 7) (g := g2) (by omega) _).store (k := 8) (g := g2) (by omega) _).store (k := 9) (g := g2) (by omega) _).store (k := 0) (g := g2 + 1) (by omega) _).store (k := 1) (g := g2 + 1) (by omega) _).store (k := 2) (g := g2 + 1) (by omega) _).store (k := 3) (g := g2 + 1) (by omega) _).store (k := 4) (g := g2 + 1) (by omega) _).store (k := 5) (g := g2 + 1) (by omega) _).store (k := 6) (g := g2 + 1) (by omega) _).store (k := 7) (g := g2 + 1) (by omega) _).store (k := 8) (g := g2 + 1) (by omega) _).store (k := 9) (g := g2 + 1) (by omega) _), ((((((((((((((((((((UU.out.store (k := 0) (g := g2) (by omega) _).store (k := 1) (g := g2) (by omega) _).store (k := 2) (g := g2) (by omega) _).store (k := 3) (g := g2) (by omega) _).store (k := 4) (g := g2) (by omega) _).store (k := 5) (g := g2) (by omega) _).store (k := 6) (g := g2) (by omega) _).store (k := 7) (g := g2) (by omega) _).store (k := 8) (g := g2) (by omega) _).store (k := 9) (g := g2) (by omega) _).store (k := 0) (g := g2 + 1) (by omega) _).store (k := 1) (g := g2 + 1) (by omega) _).store (k := 2) (g := g2 + 1) (by omega) _).store (k := 3) (g := g2 + 1) (by omega) _).store (k := 4) (g := g2 + 1) (by omega) _).store (k := 5) (g := g2 + 1) (by omega) _).store (k := 6) (g := g2 + 1) (by omega) _).store (k := 7) (g := g2 + 1) (by omega) _).store (k := 8) (g := g2 + 1) (by omega) _).store (k := 9) (g := g2 + 1) (by omega) _)⟩
      · have HL : Hid (n1 * d2 ≤ n2 * d1) := Int.not_lt.1 (fun h => hp (HC.out.2 h))
        go_wp2_with fail
        all_goals go_meet
        all_goals exact ⟨n1, d1, n2, d2, HF.out.1, HF.out.2, HL.out, P2, P3, P4, P5, T7, UU.out⟩
    case rest =>
      clear P2 P3 P4 P5 UU T7 HF HC kC
      obtain ⟨n1, d1, n2, d2, hF1, hF2, hL, P2, P3, P4, P5, T8, hUU⟩ := hcut
      have UU := hide hUU
      have HF := hide (And.intro hF1 (And.intro hF2 hL))
      clear hUU hF1 hF2 hL
      go_upto_region 12 with fail
      have lbP2 := P2.lt
      have lbP3 := P3.lt
      have lbP4 := P4.lt
      have lbP5 := P5.lt
      have ltW0 : ∀ c, Tag.so c ∈ [.q, .q, .so 0, .so 1] → (fun i => match i with | 0 => gz | _ => gz + 1) c < wc.heap.size := by intro c hc; simp at hc; rcases hc with rfl | rfl <;> (try simp only) <;> omega
      refine wp_decl [.q, .q, .so 0, .so 1] [.agg #[.bool (sg n1), .int .u64 (l0 n1 : Int), .int .u64 (l1 n1 : Int), .int .u64 (l2 n1 : Int), .int .u64 (l3 n1 : Int), .bool (sg d1), .int .u64 (l0 d1 : Int), .int .u64 (l1 d1 : Int), .int .u64 (l2 d1 : Int), .int .u64 (l3 d1 : Int)], .agg #[.bool (sg n2), .int .u64 (l0 n2 : Int), .int .u64 (l1 n2 : Int), .int .u64 (l2 n2 : Int), .int .u64 (l3 n2 : Int), .bool (sg d2), .int .u64 (l0 d2 : Int), .int .u64 (l1 d2 : Int), .int .u64 (l2 d2 : Int), .int .u64 (l3 d2 : Int)], undef, undef] (fun _ => (.cells #[.bool false, .int .u64 0, .int .u64 0, .int .u64 0, .int .u64 0] 25 (0, 0))) (fun i => match i with | 2 => (.cells #[.bool (sg n1), .int .u64 (l0 n1 : Int), .int .u64 (l1 n1 : Int), .int .u64 (l2 n1 : Int), .int .u64 (l3 n1 : Int), .bool (sg d1), .int .u64 (l0 d1 : Int), .int .u64 (l1 d1 : Int), .int .u64 (l2 d1 : Int), .int .u64 (l3 d1 : Int)] 35 (0, 0)) | _ => (.cells #[.bool (sg n2), .int .u64 (l0 n2 : Int), .int .u64 (l1 n2 : Int), .int .u64 (l2 n2 : Int), .int .u64 (l3 n2 : Int), .bool (sg d2), .int .u64 (l0 d2 : Int), .int .u64 (l1 d2 : Int), .int .u64 (l2 d2 : Int), .int .u64 (l3 d2 : Int)] 35 (0, 0))) (fun i => match i with | 0 => gz | _ => gz + 1) (by kernel_rfl) (by kernel_rfl) (by kernel_rfl) rfl rfl ltW0 (by intro c c' h1 h2 h3; simp at h1 h2; rcases h1 with rfl | rfl <;> rcases h2 with rfl | rfl <;> simp only at h3 <;> omega) ?_ ?_
      · refine ⟨?_, ?_, ?_, ?_, trivial⟩
        · refine op_q ?uvn2 ?h1n2 ?h2n2 ?h3n2
          case h1n2 => exact rfl
          case uvn2 => exact (.agg #[.bool (sg n1), .int .u64 (l0 n1 : Int), .int .u64 (l1 n1 : Int), .int .u64 (l2 n1 : Int), .int .u64 (l3 n1 : Int), .bool (sg d1), .int .u64 (l0 d1 : Int), .int .u64 (l1 d1 : Int), .int .u64 (l2 d1 : Int), .int .u64 (l3 d1 : Int)])
          case h2n2 => exact rfl
          intro w' hw'
          have P4 := P4.same hw' (by intro c hc; simp at hc; rcases hc with rfl | rfl <;> (try simp only) <;> omega)
          have xP4 := ten_cells P4
          go_simp
        · refine op_q ?uvn3 ?h1n3 ?h2n3 ?h3n3
          case h1n3 => exact rfl
          case uvn3 => exact (.agg #[.bool (sg n2), .int .u64 (l0 n2 : Int), .int .u64 (l1 n2 : Int), .int .u64 (l2 n2 : Int), .int .u64 (l3 n2 : Int), .bool (sg d2), .int .u64 (l0 d2 : Int), .int .u64 (l1 d2 : Int), .int .u64 (l2 d2 : Int), .int .u64 (l3 d2 : Int)])
          case h2n3 => exact rfl
          intro w' hw'
          have P5 := P5.same hw' (by intro c hc; simp at hc; rcases hc with rfl | rfl <;> (try simp only) <;> omega)
          have xP5 := ten_cells P5
          go_simp
        · refine op_so (c := 0) (T := ?uTn4) (p := ?upn4) (x := ?uxn4) ?ugn4 ?ufn4 ?uvn4 ?h1n4 ?h2n4 ?h3n4 ?h4n4 ?h5n4 ?h6n4 ?h7n4
          case h1n4 => exact rfl
          case h2n4 => exact rfl
          case ufn4 => exact (.cells #[.bool (sg n1), .int .u64 (l0 n1 : Int), .int .u64 (l1 n1 : Int), .int .u64 (l2 n1 : Int), .int .u64 (l3 n1 : Int), .bool (sg d1), .int .u64 (l0 d1 : Int), .int .u64 (l1 d1 : Int), .int .u64 (l2 d1 : Int), .int .u64 (l3 d1 : Int)] 35 (0, 0))
          case ugn4 => exact gz
          case uvn4 => exact (.agg #[.bool (sg n1), .int .u64 (l0 n1 : Int), .int .u64 (l1 n1 : Int), .int .u64 (l2 n1 : Int), .int .u64 (l3 n1 : Int), .bool (sg d1), .int .u64 (l0 d1 : Int), .int .u64 (l1 d1 : Int), .int .u64 (l2 d1 : Int), .int .u64 (l3 d1 : Int)])
          case h3n4 => exact rfl
          case h4n4 => exact rfl
          case h5n4 => go_simp; rfl
          case h6n4 => go_simp
          intro ρ w' hp hx hz
          exact store_ratio rfl hp hx (hz.trans P2)
        · refine op_so (c := 1) (T := ?uTn5) (p := ?upn5) (x := ?uxn5) ?ugn5 ?ufn5 ?uvn5 ?h1n5 ?h2n5 ?h3n5 ?h4n5 ?h5n5 ?h6n5 ?h7n5
          case h1n5 => exact rfl
          case h2n5 => exact rfl
          case ufn5 => exact (.cells #[.bool (sg n2), .int .u64 (l0 n2 : Int), .int .u64 (l1 n2 : Int), .int .u64 (l2 n2 : Int), .int .u64 (l3 n2 : Int), .bool (sg d2), .int .u64 (l0 d2 : Int), .int .u64 (l1 d2 : Int), .int .u64 (l2 d2 : Int), .int .u64 (l3 d2 : Int)] 35 (0, 0))
          case ugn5 => exact gz + 1
          case uvn5 => exact (.agg #[.bool (sg n2), .int .u64 (l0 n2 : Int), .int .u64 (l1 n2 : Int), .int .u64 (l2 n2 : Int), .int .u64 (l3 n2 : Int), .bool (sg d2), .int .u64 (l0 d2 : Int), .int .u64 (l1 d2 : Int), .int .u64 (l2 d2 : Int), .int .u64 (l3 d2 : Int)])
          case h3n5 => exact rfl
          case h4n5 => exact rfl
          case h5n5 => go_simp; rfl
          case h6n5 => go_simp
          intro ρ w' hp hx hz
          exact store_ratio rfl hp hx (hz.trans P3)
      · intro G W4 hI
        have hS := hI.same
        have P4 := P4.same hS (by intro c hc; simp at hc; rcases hc with rfl | rfl <;> (try simp only) <;> omega)
        have P5 := P5.same hS (by intro c hc; simp at hc; rcases hc with rfl | rfl <;> (try simp only) <;> omega)
        have hso : ∀ c, Tag.so c ∈ [.q, .q, .so 0, .so 1] → W.heap.size ≤ (fun i => match i with | 0 => gz | _ => gz + 1) c := by intro c hc; simp at hc; rcases hc with rfl | rfl <;> (try simp only) <;> omega
        have UU := hide (hS.upd' UU.out hso)
        have T8 := hS.tape' T8 (by intro c hc; simp at hc; rcases hc with rfl | rfl <;> (try simp only) <;> omega)
        have P2 : Box10 W4 gz (sg n1) (l0 n1) (l1 n1) (l2 n1) (l3 n1) (sg d1) (l0 d1) (l1 d1) (l2 d1) (l3 d1) := hI.olds' 2 (List.mem_range.2 (show 2 < 4 by decide)) 0 rfl
        have P3 : Box10 W4 (gz + 1) (sg n2) (l0 n2) (l1 n2) (l2 n2) (l3 n2) (sg d2) (l0 d2) (l1 d2) (l2 d2) (l3 d2) := hI.olds' 3 (List.mem_range.2 (show 3 < 4 by decide)) 1 rfl
        clear hI hS
        simp only [putAll, slotV, ptrTo, Nat.zero_add, Nat.reduceAdd]
        go_wp2_with fail
        obtain ⟨xP20, xP21, xP22, xP23, xP24, xP25, xP26, xP27, xP28, xP29, xP2f0, xP2f1, xP2f2, xP2f3, xP2f4, xP2f5, xP2f6, xP2f7, xP2f8, xP2f9⟩ := ten_cells P2; obtain ⟨xP30, xP31, xP32, xP33, xP34, xP35, xP36, xP37, xP38, xP39, xP3f0, xP3f1, xP3f2, xP3f3, xP3f4, xP3f5, xP3f6, xP3f7, xP3f8, xP3f9⟩ := ten_cells P3
        all_goals exact bodyPost_ret (v := .tuple #[.agg #[.bool (sg n1), .int .u64 (l0 n1 : Int), .int .u64 (l1 n1 : Int), .int .u64 (l2 n1 : Int), .int .u64 (l3 n1 : Int), .bool (sg d1), .int .u64 (l0 d1 : Int), .int .u64 (l1 d1 : Int), .int .u64 (l2 d1 : Int), .int .u64 (l3 d1 : Int)], .agg #[.bool (sg n2), .int .u64 (l0 n2 : Int), .int .u64 (l1 n2 : Int), .int .u64 (l2 n2 : Int), .int .u64 (l3 n2 : Int), .bool (sg d2), .int .u64 (l0 d2 : Int), .int .u64 (l1 d2 : Int), .int .u64 (l2 d2 : Int), .int .u64 (l3 d2 : Int)]]) (by simp [results, Try.results24, go_sem, xP20, xP21, xP22, xP23, xP24, xP25, xP26, xP27, xP28, xP29, xP30, xP31, xP32, xP33, xP34, xP35, xP36, xP37, xP38, xP39]) rfl ⟨n1, d1, n2, d2, rfl, HF.out.1, HF.out.2.1, HF.out.2.2, T8, UU.out⟩
end Go.Proofs.Ytbnbkondbdakeaa
