/- Part 8 of what these claims stand on: contracts of the program's and the reference's functions, and plain facts. Conditions: each states its own. -/
import Derived.Test.YthlbkidgdngblaaPrM7
namespace Go.Proofs.Ythlbkidgdngblaa
set_option linter.unusedVariables false
set_option linter.unusedSimpArgs false
section
open Go Go.RowKit Go.Sort
attribute [local go_sem] qUpon eUpon putE slE
theorem badR_zero : BadR zR := by
 refine ⟨false, 0, 0, 0, 0, false, 0, 0, 0, 0, 0, 0, rfl, ⟨by omega, by omega, by omega, by omega, rfl⟩, ⟨by omega, by omega, by omega, by omega, rfl⟩, fun h => ?_⟩
 have := h.2.2.1
 omega
theorem badC_zero : BadC z21 := ⟨false, zR, zR, z21_cone, Or.inr badR_zero, Or.inr badR_zero, Or.inr ⟨rfl, Or.inl badR_zero⟩⟩
theorem cn_form' {c : Cn} (hc : okC c) : ∃ o L H, cnC c = coneC o L H ∧ RawR L ∧ RawR H := by
 cases c with
 | op => exact ⟨true, zR, zR, rfl, Or.inr badR_zero, Or.inr badR_zero⟩
 | cl a b => exact ⟨false, frC a, frC b, rfl, Or.inl ⟨a, hc.1, rfl⟩, Or.inl ⟨b, hc.2.1, rfl⟩⟩
theorem con3 {a b : Cn} (ha : okC a) (hb : okC b) {S : Array Value} (hS : RawR S) : ∃ va vb : Bool, (∀ w, Calls Try.prog 24 #[.agg (cnC a), .agg S] w (Ret (.bool va) w)) ∧ (∀ w, Calls Try.prog 24 #[.agg (cnC b), .agg S] w (Ret (.bool vb) w)) ∧ (∀ m, meetC a b = some m → ∀ w, Calls Try.prog 24 #[.agg (cnC m), .agg S] w (Ret (.bool (va && vb)) w)) ∧ (meetC a b = none → (va && vb) = false) := by
 rcases hS with ⟨f, hf, rfl⟩ | hB
 · have hm := meet_in (a := a) (b := b) ha hb hf
   refine ⟨decide (inC a f), decide (inC b f), p_con a f ha hf, p_con b f hb hf, fun m e => ?_, fun e => ?_⟩
   · have k := p_con m f (meet_ok ha hb e) hf
     have : decide (inC m f) = (decide (inC a f) && decide (inC b f)) := by
       rw [← Bool.decide_and]
       refine decide_eq_decide.2 ⟨fun h => hm.1 ⟨m, e, h⟩, fun h => ?_⟩
       obtain ⟨m', e', h'⟩ := hm.2 h
       rw [e] at e'
       cases e'
       exact h'
     rw [this] at k
     exact k
   · rw [← Bool.decide_and]
     refine decide_eq_false fun h => ?_
     obtain ⟨m', e', h'⟩ := hm.2 h
     rw [e] at e'
     cases e'
 · exact ⟨false, false, p_conR.2 a S ha hB, p_conR.2 b S hb hB, fun m e => p_conR.2 m S (meet_ok ha hb e) hB, fun _ => rfl⟩
theorem meeO {m : Option Cn} (hm : ∀ q, m = some q → okC q) {c : Cn} (hc : okC c) (w : World) : Calls Try.prog 28 #[.agg (moC m), .agg (cnC c)] w (Ret (.tuple #[.agg (moC (m.bind fun q => meetC q c)), .bool (m.bind fun q => meetC q c).isSome]) w) := by
 cases m with
 | none => exact p_meeR z21 (cnC c) (Or.inr badC_zero) (Or.inl ⟨c, hc, rfl⟩) (Or.inl badC_zero) w
 | some q => exact p_mee q c (hm q rfl) hc w
theorem meeO' {a : Cn} (ha : okC a) {m : Option Cn} (hm : ∀ q, m = some q → okC q) (w : World) : Calls Try.prog 28 #[.agg (cnC a), .agg (moC m)] w (Ret (.tuple #[.agg (moC (m.bind fun q => meetC a q)), .bool (m.bind fun q => meetC a q).isSome]) w) := by
 cases m with
 | none => exact p_meeR (cnC a) z21 (Or.inl ⟨a, ha, rfl⟩) (Or.inr badC_zero) (Or.inr badC_zero) w
 | some q => exact p_mee a q ha (hm q rfl) w
set_option maxHeartbeats 12800000 in
set_option maxRecDepth 100000 in
theorem law_cmeets (x : Option Addr) (len cap : Nat) (W : World) (hL : IsList W x len cap) : Calls Try.prog 5 #[.slice x len cap] W (BoolRet true W) := by
 have HL := hide hL
 have kK : Hid (∀ w, Calls Try.prog 12 #[] w (Ret (.bool true) w)) := fun w => l_known13q w
 clear hL
 have EE : Hid (Ext W W) := Ext.refl _
 go_enter Try.func5, Try.ntmps5
 go_upto_region 1 with fail
 go_upto_region 2 with (go_at_call 7; (with_reducible refine (t_new W x len cap HL.out).mono ?_); rintro e w1 ⟨rfl, T0, hB⟩)
 obtain ⟨b, hb⟩ : ∃ b, W.heap.size = b := ⟨_, rfl⟩
 have HB := hide hb
 rw [hb] at T0 hB
 have EE : Hid (Ext W w1) := by rw [← hb] at hB; exact hB
 rw [hb]
 have hBw : b ≤ w1.heap.size := by have := T0.2.1; omega
 clear hb hB
 have UU : Hid (Upd b w1 w1) := hide (Upd.refl _ _)
 refine wp_evsA [.q, .ev 0, .q, .ev 1, .q, .ev 2, .al, .al, .al, .st 6, .st 7, .st 8] [0, 0, 0, 1, 0, 2, 0, 0, 0, 1, 2, 3] (fun R => [.pointer (some ⟨b, 0, none⟩), undef, .pointer (some ⟨b, 0, none⟩), undef, .pointer (some ⟨b, 0, none⟩), undef, undef, undef, undef, undef, undef, undef]) (fun i => match i with | 6 => (.cells z21 42 (0, 0)) | 7 => (.cells z21 42 (0, 0)) | _ => (.cells z21 42 (0, 0))) (fun R i => match i with | 9 => (.cells (rowV (R 0)) 42 (0, 0)) | 10 => (.cells (rowV (R 1)) 42 (0, 0)) | 11 => (.cells (rowV (R 2)) 42 (0, 0)) | _ => (.cells #[] 0 (0, 0))) (fun _ => 0) (TE b b w1 (XA [IsCn, IsCn, IsCn])) (fun k => k = b) _ (fun R G => { tmps := #[.slice x len cap, undef, .bool false, .pointer (some ⟨b, 0, none⟩), .pointer (some ⟨G 6, 0, none⟩), .pointer (some ⟨G 7, 0, none⟩), .pointer (some ⟨G 8, 0, none⟩), undef, undef, undef, undef, undef, undef, undef, undef, undef, undef, undef, undef, .slice x len cap, .pointer (some ⟨b, 0, none⟩), .pointer (some ⟨b, 0, none⟩), (R 0), .pointer (some ⟨b, 0, none⟩), (R 1), .pointer (some ⟨b, 0, none⟩), (R 2), undef, undef, undef, undef, undef, undef, undef, undef, undef, undef, undef, undef, undef, undef, undef, undef, undef, undef, undef, undef, undef, undef, undef, undef, undef, undef, undef, undef, undef, undef, undef, undef, undef, undef, undef, undef, undef, undef, undef, undef, undef, undef, undef, undef, undef, undef, undef, undef, undef, undef, undef, undef, undef, undef, undef, undef, undef, undef, undef, undef, undef, undef, undef, undef, undef, undef, undef, undef, undef, undef, undef, undef, undef, undef, undef, undef, undef, undef, undef, undef, undef, undef, undef, undef, undef, undef, undef, undef, undef, undef, undef, undef, undef, undef, undef, undef, undef, undef, undef, undef, undef, undef, undef, undef, undef, undef], defers := [] }) (by intro R G; kernel_rfl) (fun _ => rfl) (by kernel_rfl) (by kernel_rfl) (by kernel_rfl) rfl (fun _ => rfl) (fun k e => by subst e; exact T0.2.1) (by simp) (by simp) (by simp) (fun R R' => ⟨fun _ => rfl, fun _ => rfl, fun _ => rfl, fun _ => rfl, fun _ => rfl, fun _ => rfl, fun _ => rfl, fun _ => rfl, fun _ => rfl, fun _ => rfl, fun _ => rfl, fun _ => rfl, trivial⟩) (by intro R R' i h; (try dsimp only); (repeat' split) <;> first | rfl | ((try rw [h 0 (by decide)]); (try rw [h 1 (by decide)]); (try rw [h 2 (by decide)]))) te_below ⟨T0, UU.out, XA.zero⟩ ?ops12 ?end12
 case ops12 =>
   refine ⟨?_, ?_, ?_, ?_, ?_, ?_, ?_, ?_, ?_, ?_, ?_, ?_, trivial⟩
   · refine er_q ?vn1 ?hn1 ?kn1 ?gn1 ?_
     case hn1 => exact rfl
     case vn1 => exact (fun R => .pointer (some ⟨b, 0, none⟩))
     case kn1 => exact (fun R => rfl)
     case gn1 => exact gd_none rfl
     intro R s w' hT hs hw ha
     go_simp
   · refine er_ev (m := 0) ?hn2 ?gn2 ?_
     case hn2 => exact rfl
     case gn2 => exact gd_none rfl
     intro R w' hT hw
     go_simp
     refine (t_some b b w' w' hT.1 (Upd.refl _ _)).mono ?_
     rintro e w2 ⟨c, hc, rfl, hT2, hU2⟩
     exact ⟨_, rfl, te_ev hT hT2 hU2 (hT.2.2.step rfl ⟨c, rfl, hc⟩)⟩
   · refine er_q ?vn3 ?hn3 ?kn3 ?gn3 ?_
     case hn3 => exact rfl
     case vn3 => exact (fun R => .pointer (some ⟨b, 0, none⟩))
     case kn3 => exact (fun R => rfl)
     case gn3 => exact gd_none rfl
     intro R s w' hT hs hw ha
     go_simp
   · refine er_ev (m := 1) ?hn4 ?gn4 ?_
     case hn4 => exact rfl
     case gn4 => exact gd_none rfl
     intro R w' hT hw
     go_simp
     refine (t_some b b w' w' hT.1 (Upd.refl _ _)).mono ?_
     rintro e w2 ⟨c, hc, rfl, hT2, hU2⟩
     exact ⟨_, rfl, te_ev hT hT2 hU2 (hT.2.2.step rfl ⟨c, rfl, hc⟩)⟩
   · refine er_q ?vn5 ?hn5 ?kn5 ?gn5 ?_
     case hn5 => exact rfl
     case vn5 => exact (fun R => .pointer (some ⟨b, 0, none⟩))
     case kn5 => exact (fun R => rfl)
     case gn5 => exact gd_none rfl
     intro R s w' hT hs hw ha
     go_simp
   · refine er_ev (m := 2) ?hn6 ?gn6 ?_
     case hn6 => exact rfl
     case gn6 => exact gd_none rfl
     intro R w' hT hw
     go_simp
     refine (t_some b b w' w' hT.1 (Upd.refl _ _)).mono ?_
     rintro e w2 ⟨c, hc, rfl, hT2, hU2⟩
     exact ⟨_, rfl, te_ev hT hT2 hU2 (hT.2.2.step rfl ⟨c, rfl, hc⟩)⟩
   · refine er_al ?zn7 ?hn7 ?kn7 ?gn7 ?_
     case zn7 => exact (.cells z21 42 (0, 0))
     case hn7 => exact rfl
     case kn7 => exact rfl
     case gn7 => exact gd_none rfl
     intro ρ w'
     go_simp
     exact ⟨rfl, rfl⟩
   · refine er_al ?zn8 ?hn8 ?kn8 ?gn8 ?_
     case zn8 => exact (.cells z21 42 (0, 0))
     case hn8 => exact rfl
     case kn8 => exact rfl
     case gn8 => exact gd_none rfl
     intro ρ w'
     go_simp
     exact ⟨rfl, rfl⟩
   · refine er_al ?zn9 ?hn9 ?kn9 ?gn9 ?_
     case zn9 => exact (.cells z21 42 (0, 0))
     case hn9 => exact rfl
     case kn9 => exact rfl
     case gn9 => exact gd_none rfl
     intro ρ w'
     go_simp
     exact ⟨rfl, rfl⟩
   · refine er_st (j := 6) (Ty := ?Tn10) (p := ?pn10) (x := ?xn10) ?fn10 ?zn10 ?vn10 ?hn10 ?on10 ?kn10 ?ln10 ?gn10 ?en10 ?_
     case hn10 => exact rfl
     case on10 => exact rfl
     case fn10 => exact (fun R => (.cells (rowV (R 0)) 42 (0, 0)))
     case zn10 => exact (.cells z21 42 (0, 0))
     case vn10 => exact (fun R => (R 0))
     case kn10 => exact (fun R => rfl)
     case ln10 => exact rfl
     case gn10 => exact gd_none rfl
     case en10 =>
       intro R
       kernel_rfl
     intro R s ρ w g hT hs hp hx hg hz
     have hs' : 0 + 1 ≤ s := hs
     obtain ⟨c0, e0, hc0⟩ := hT.2.2.get 0 rfl hs'
     rw [e0] at hx ⊢
     exact ⟨store_rowN rfl hp hx hz iCone rfl (cnC_size c0) (by exact cnC_one c0), fun w1 hF => te_filled hT hF (Nat.le_trans UU.out.2.2.2.1 hg) (by have := T0.2.1; omega) (by have := T0.1; have := T0.2.1; omega)⟩
   · refine er_st (j := 7) (Ty := ?Tn11) (p := ?pn11) (x := ?xn11) ?fn11 ?zn11 ?vn11 ?hn11 ?on11 ?kn11 ?ln11 ?gn11 ?en11 ?_
     case hn11 => exact rfl
     case on11 => exact rfl
     case fn11 => exact (fun R => (.cells (rowV (R 1)) 42 (0, 0)))
     case zn11 => exact (.cells z21 42 (0, 0))
     case vn11 => exact (fun R => (R 1))
     case kn11 => exact (fun R => rfl)
     case ln11 => exact rfl
     case gn11 => exact gd_none rfl
     case en11 =>
       intro R
       kernel_rfl
     intro R s ρ w g hT hs hp hx hg hz
     have hs' : 1 + 1 ≤ s := hs
     obtain ⟨c1, e1, hc1⟩ := hT.2.2.get 1 rfl hs'
     rw [e1] at hx ⊢
     exact ⟨store_rowN rfl hp hx hz iCone rfl (cnC_size c1) (by exact cnC_one c1), fun w1 hF => te_filled hT hF (Nat.le_trans UU.out.2.2.2.1 hg) (by have := T0.2.1; omega) (by have := T0.1; have := T0.2.1; omega)⟩
   · refine er_st (j := 8) (Ty := ?Tn12) (p := ?pn12) (x := ?xn12) ?fn12 ?zn12 ?vn12 ?hn12 ?on12 ?kn12 ?ln12 ?gn12 ?en12 ?_
     case hn12 => exact rfl
     case on12 => exact rfl
     case fn12 => exact (fun R => (.cells (rowV (R 2)) 42 (0, 0)))
     case zn12 => exact (.cells z21 42 (0, 0))
     case vn12 => exact (fun R => (R 2))
     case kn12 => exact (fun R => rfl)
     case ln12 => exact rfl
     case gn12 => exact gd_none rfl
     case en12 =>
       intro R
       kernel_rfl
     intro R s ρ w g hT hs hp hx hg hz
     have hs' : 2 + 1 ≤ s := hs
     obtain ⟨c2, e2, hc2⟩ := hT.2.2.get 2 rfl hs'
     rw [e2] at hx ⊢
     exact ⟨store_rowN rfl hp hx hz iCone rfl (cnC_size c2) (by exact cnC_one c2), fun w1 hF => te_filled hT hF (Nat.le_trans UU.out.2.2.2.1 hg) (by have := T0.2.1; omega) (by have := T0.1; have := T0.2.1; omega)⟩
 case end12 =>
  intro sI R G w13 hI FF hFF
  have hS := hI.same
  have hTT := hI.holds
  have hz0 := UU.out.2.2.2.1
  have hs0 : 0 < sI := (hI.stage 1 (show 1 < 12 by decide) 0 rfl).1 (List.mem_range.2 (show 1 < 12 by decide))
  obtain ⟨c0, e0, hc0⟩ := hTT.2.2.get 0 rfl hs0
  have hs1 : 1 < sI := (hI.stage 3 (show 3 < 12 by decide) 1 rfl).1 (List.mem_range.2 (show 3 < 12 by decide))
  obtain ⟨c1, e1, hc1⟩ := hTT.2.2.get 1 rfl hs1
  have hs2 : 2 < sI := (hI.stage 5 (show 5 < 12 by decide) 2 rfl).1 (List.mem_range.2 (show 5 < 12 by decide))
  obtain ⟨c2, e2, hc2⟩ := hTT.2.2.get 2 rfl hs2
  have P4 : Blk w13 (G 6) 42 (rowV (R 0)) := (hI.fulls 9 (List.mem_range.2 (show 9 < 12 by decide)) 6 rfl).2.2
  have hmP4 := (hI.made 6 (List.mem_range.2 (show 6 < 12 by decide)) rfl).1
  have P4_lo : w1.heap.size ≤ G 6 := Nat.le_trans hz0 hmP4
  rw [e0] at P4
  have P4 : Blk w13 (G 6) 42 (cnC c0) := P4
  have P4_nb : G 6 ≠ b := by have := T0.2.1; omega
  have P5 : Blk w13 (G 7) 42 (rowV (R 1)) := (hI.fulls 10 (List.mem_range.2 (show 10 < 12 by decide)) 7 rfl).2.2
  have hmP5 := (hI.made 7 (List.mem_range.2 (show 7 < 12 by decide)) rfl).1
  have P5_lo : w1.heap.size ≤ G 7 := Nat.le_trans hz0 hmP5
  rw [e1] at P5
  have P5 : Blk w13 (G 7) 42 (cnC c1) := P5
  have P5_nb : G 7 ≠ b := by have := T0.2.1; omega
  have P6 : Blk w13 (G 8) 42 (rowV (R 2)) := (hI.fulls 11 (List.mem_range.2 (show 11 < 12 by decide)) 8 rfl).2.2
  have hmP6 := (hI.made 8 (List.mem_range.2 (show 8 < 12 by decide)) rfl).1
  have P6_lo : w1.heap.size ≤ G 8 := Nat.le_trans hz0 hmP6
  rw [e2] at P6
  have P6 : Blk w13 (G 8) 42 (cnC c2) := P6
  have P6_nb : G 8 ≠ b := by have := T0.2.1; omega
  have ng4_5 : G 6 ≠ G 7 := fun e => by have := hI.apart 6 (List.mem_range.2 (show 6 < 12 by decide)) 7 (List.mem_range.2 (show 7 < 12 by decide)) rfl rfl e; omega
  have ng4_6 : G 6 ≠ G 8 := fun e => by have := hI.apart 6 (List.mem_range.2 (show 6 < 12 by decide)) 8 (List.mem_range.2 (show 8 < 12 by decide)) rfl rfl e; omega
  have ng5_6 : G 7 ≠ G 8 := fun e => by have := hI.apart 7 (List.mem_range.2 (show 7 < 12 by decide)) 8 (List.mem_range.2 (show 8 < 12 by decide)) rfl rfl e; omega
  replace T0 := hTT.1
  replace UU := hide hTT.2.1
  clear hS hz0 hTT hI 
  dsimp only at hFF
  subst hFF
  (try simp only [e0, e1, e2])
  generalize G 6 = g4 at *
  generalize G 7 = g5 at *
  generalize G 8 = g6 at *
  clear e0 e1 e2
  obtain ⟨S4, hs4, kC⟩ := p_cho c0 hc0
  have hsi := choose_in hc0 hs4
  have kC := hide kC
  have kM := hide (p_mee c0 c1 hc0 hc1)
  have kM2 := hide (p_mee c1 c0 hc1 hc0)
  rw [← meet_comm hc0 hc1] at kM2
  have kX := hide (meeO (m := meetC c0 c1) (fun q e => meet_ok hc0 hc1 e) hc2)
  have kP := hide (p_mee c1 c2 hc1 hc2)
  have kY := hide (meeO' hc0 (m := meetC c1 c2) (fun q e => meet_ok hc1 hc2 e))
  rw [← meet_assoc hc0 hc1 hc2] at kY
  obtain ⟨m0, hm0⟩ : ∃ m0, meetC c0 c1 = m0 := ⟨_, rfl⟩
  obtain ⟨p0, hp0⟩ : ∃ p0, meetC c1 c2 = p0 := ⟨_, rfl⟩
  obtain ⟨x0, hx0⟩ : ∃ x0, ((m0.bind fun q => meetC q c2) : Option Cn) = x0 := ⟨_, rfl⟩
  have Hc3 := hide (fun S (hS : RawR S) => con3 hc0 hc1 hS)
  rw [hm0] at kM kM2 kX Hc3 kY
  rw [hp0] at kP kY
  rw [hx0] at kX kY
  have hmx : x0.isSome = true → m0.isSome = true := fun h => by
    rw [← hx0] at h
    cases m0 with
    | none => cases h
    | some q => rfl
  have hpx : x0.isSome = true → p0.isSome = true := fun h => by
    rw [← hx0, ← hm0, meet_assoc hc0 hc1 hc2, hp0] at h
    cases p0 with
    | none => cases h
    | some q => rfl
  have Hmx := hide (And.intro hmx hpx)
  have qM := hide (moC_eq m0)
  have qX := hide (moC_eq x0)
  have sM := moC_size m0
  have oM := moC_one m0
  have sP := moC_size p0
  have oP := moC_one p0
  have sX := moC_size x0
  have oX := moC_one x0
  obtain ⟨o0, L0, H0, ec0, rL0, rH0⟩ := cn_form' hc0
  obtain ⟨o1, L1, H1, ec1, rL1, rH1⟩ := cn_form' hc1
  obtain ⟨o2, L2, H2, ec2, rL2, rH2⟩ := cn_form' hc2
  have fL0 := coneC_lo o0 rL0.rc.size rH0.rc.size
  have fH1 := coneC_hi o1 rL1.rc.size rH1.rc.size
  have fL2 := coneC_lo o2 rL2.rc.size rH2.rc.size
  rw [← ec0] at fL0
  rw [← ec1] at fH1
  rw [← ec2] at fL2
  have sC0 := cnC_size c0
  have oC0 := cnC_one c0
  have sC1 := cnC_size c1
  have oC1 := cnC_one c1
  have sC2 := cnC_size c2
  have oC2 := cnC_one c2
  have rS4 : RawR (frC S4) := Or.inl ⟨S4, hsi.2, rfl⟩
  obtain ⟨C0, hC0⟩ : ∃ C, cnC c0 = C := ⟨_, rfl⟩
  obtain ⟨C1, hC1⟩ : ∃ C, cnC c1 = C := ⟨_, rfl⟩
  obtain ⟨C2, hC2⟩ : ∃ C, cnC c2 = C := ⟨_, rfl⟩
  obtain ⟨M, hM⟩ : ∃ C, moC m0 = C := ⟨_, rfl⟩
  obtain ⟨Pp, hP⟩ : ∃ C, moC p0 = C := ⟨_, rfl⟩
  obtain ⟨Xx, hX⟩ : ∃ C, moC x0 = C := ⟨_, rfl⟩
  obtain ⟨Sx, hS4⟩ : ∃ C, frC S4 = C := ⟨_, rfl⟩
  rw [hC0] at kC kM kM2 kY P4 sC0 oC0 fL0 Hc3
  rw [hC1] at kM kM2 kP P5 sC1 oC1 fH1 Hc3
  rw [hC2] at kX kP P6 sC2 oC2 fL2
  rw [hM] at kM kM2 kX qM sM oM
  rw [hP] at kP kY sP oP
  rw [hX] at kX kY qX sX oX
  rw [hS4] at kC rS4
  try simp only [hC0, hC1, hC2]
  have HM := hide (And.intro hM hm0)
  obtain ⟨ok, hok⟩ : ∃ v, m0.isSome = v := ⟨_, rfl⟩
  obtain ⟨hs, hhs⟩ : ∃ v, p0.isSome = v := ⟨_, rfl⟩
  obtain ⟨is, his⟩ : ∃ v, x0.isSome = v := ⟨_, rfl⟩
  rw [hok] at kM kM2 Hmx
  rw [hhs] at kP Hmx
  rw [his] at kX kY Hmx
  have Hok := hide hok
  clear hC0 hC1 hC2 hM hP hX hS4 hs4 hsi ec0 ec1 ec2 hx0 hp0 hm0 hok hhs his hmx hpx rH0 rL1 rH2 hc0 hc1 hc2
  go_upto_region 3 with fail
  have P4_lt := P4.lt
  have P5_lt := P5.lt
  have P6_lt := P6.lt
  refine wp_evsA [.q, .q, .q, .q, .q, .q, .al, .st 6, .q] [0, 0, 0, 0, 0, 0, 0, 0, 0] (fun R => [.agg C0, .agg C1, .tuple #[.agg M, .bool ok], .tuple #[.agg M, .bool ok], .agg M, .bool ok, undef, undef, .bool ok]) (fun _ => (.cells z21 42 (0, 0))) (fun R _ => (.cells M 42 (0, 0))) (fun _ => 0) (TE b b w1 (XA [])) (fun k => k = b) _ (fun R G => { tmps := #[.slice x len cap, undef, .bool false, .pointer (some ⟨b, 0, none⟩), .pointer (some ⟨g4, 0, none⟩), .pointer (some ⟨g5, 0, none⟩), .pointer (some ⟨g6, 0, none⟩), .pointer (some ⟨G 6, 0, none⟩), .bool ok, undef, undef, undef, undef, undef, undef, undef, undef, undef, undef, .slice x len cap, .pointer (some ⟨b, 0, none⟩), .pointer (some ⟨b, 0, none⟩), .agg C0, .pointer (some ⟨b, 0, none⟩), .agg C1, .pointer (some ⟨b, 0, none⟩), .agg C2, .tuple #[.agg M, .bool ok], .agg C0, .agg C1, .tuple #[.agg M, .bool ok], .agg M, .bool ok, undef, undef, undef, undef, undef, undef, undef, undef, undef, undef, undef, undef, undef, undef, undef, undef, undef, undef, undef, undef, undef, undef, undef, undef, undef, undef, undef, undef, undef, undef, undef, undef, undef, undef, undef, undef, undef, undef, undef, undef, undef, undef, undef, undef, undef, undef, undef, undef, undef, undef, undef, undef, undef, undef, undef, undef, undef, undef, undef, undef, undef, undef, undef, undef, undef, undef, undef, undef, undef, undef, undef, undef, undef, undef, undef, undef, undef, undef, undef, undef, undef, undef, undef, undef, undef, undef, undef, undef, undef, undef, undef, undef, undef, undef, undef, undef, undef, undef, undef, undef], defers := [] }) (by intro R G; kernel_rfl) (fun _ => rfl) (by kernel_rfl) (by kernel_rfl) (by kernel_rfl) rfl (fun _ => rfl) (fun k e => by subst e; exact T0.2.1) (by simp) (by simp) (by simp) (fun R R' => ⟨fun _ => rfl, fun _ => rfl, fun _ => rfl, fun _ => rfl, fun _ => rfl, fun _ => rfl, fun _ => rfl, fun _ => rfl, fun _ => rfl, trivial⟩) (fun _ _ _ _ => rfl) te_below ⟨T0, UU.out, XA.zero⟩ ?ops22 ?end22
  case ops22 =>
    refine ⟨?_, ?_, ?_, ?_, ?_, ?_, ?_, ?_, ?_, trivial⟩
    · refine er_q ?vn14 ?hn14 ?kn14 ?gn14 ?_
      case hn14 => exact rfl
      case vn14 => exact (fun R => .agg C0)
      case kn14 => exact (fun R => rfl)
      case gn14 => exact gd_none rfl
      intro R s w' hT hs hw ha
      have L := ld_all (P4.sameE hw P4_nb (by simp)) uCone rfl iCone sC0
      refine q_load rfl ?_ L
      kernel_rfl
    · refine er_q ?vn15 ?hn15 ?kn15 ?gn15 ?_
      case hn15 => exact rfl
      case vn15 => exact (fun R => .agg C1)
      case kn15 => exact (fun R => rfl)
      case gn15 => exact gd_none rfl
      intro R s w' hT hs hw ha
      have L := ld_all (P5.sameE hw P5_nb (by simp)) uCone rfl iCone sC1
      refine q_load rfl ?_ L
      kernel_rfl
    · refine er_q ?vn16 ?hn16 ?kn16 ?gn16 ?_
      case hn16 => exact rfl
      case vn16 => exact (fun R => .tuple #[.agg M, .bool ok])
      case kn16 => exact (fun R => rfl)
      case gn16 => exact gd_none rfl
      intro R s w' hT hs hw ha
      go_simp
      exact kM.out w'
    · refine er_q ?vn17 ?hn17 ?kn17 ?gn17 ?_
      case hn17 => exact rfl
      case vn17 => exact (fun R => .tuple #[.agg M, .bool ok])
      case kn17 => exact (fun R => rfl)
      case gn17 => exact gd_none rfl
      intro R s w' hT hs hw ha
      go_simp
    · refine er_q ?vn18 ?hn18 ?kn18 ?gn18 ?_
      case hn18 => exact rfl
      case vn18 => exact (fun R => .agg M)
      case kn18 => exact (fun R => rfl)
      case gn18 => exact gd_none rfl
      intro R s w' hT hs hw ha
      go_simp
    · refine er_q ?vn19 ?hn19 ?kn19 ?gn19 ?_
      case hn19 => exact rfl
      case vn19 => exact (fun R => .bool ok)
      case kn19 => exact (fun R => rfl)
      case gn19 => exact gd_none rfl
      intro R s w' hT hs hw ha
      go_simp
    · refine er_al ?zn20 ?hn20 ?kn20 ?gn20 ?_
      case zn20 => exact (.cells z21 42 (0, 0))
      case hn20 => exact rfl
      case kn20 => exact rfl
      case gn20 => exact gd_none rfl
      intro ρ w'
      go_simp
      exact ⟨rfl, rfl⟩
    · refine er_st (j := 6) (Ty := ?Tn21) (p := ?pn21) (x := ?xn21) ?fn21 ?zn21 ?vn21 ?hn21 ?on21 ?kn21 ?ln21 ?gn21 ?en21 ?_
      case hn21 => exact rfl
      case on21 => exact rfl
      case fn21 => exact (fun R => (.cells M 42 (0, 0)))
      case zn21 => exact (.cells z21 42 (0, 0))
      case vn21 => exact (fun R => .agg M)
      case kn21 => exact (fun R => rfl)
      case ln21 => exact rfl
      case gn21 => exact gd_none rfl
      case en21 =>
        intro R
        kernel_rfl
      intro R s ρ w g hT hs hp hx hg hz
      exact ⟨store_row rfl hp hx hz iCone (sM) (oM), fun w1 hF => te_filled hT hF (Nat.le_trans UU.out.2.2.2.1 hg) (by have := T0.2.1; omega) (by have := T0.1; have := T0.2.1; omega)⟩
    · refine er_q ?vn22 ?hn22 ?kn22 ?gn22 ?_
      case hn22 => exact rfl
      case vn22 => exact (fun R => .bool ok)
      case kn22 => exact (fun R => rfl)
      case gn22 => exact gd_none rfl
      intro R s w' hT hs hw ha
      go_simp
  case end22 =>
   intro sI R G w23 hI FF hFF
   have hS := hI.same
   have hTT := hI.holds
   have hz0 := UU.out.2.2.2.1
   replace P4 := P4.sameE hS P4_nb (by simp)
   replace P5 := P5.sameE hS P5_nb (by simp)
   replace P6 := P6.sameE hS P6_nb (by simp)
   have P7 : Blk w23 (G 6) 42 M := (hI.fulls 7 (List.mem_range.2 (show 7 < 9 by decide)) 6 rfl).2.2
   have hmP7 := (hI.made 6 (List.mem_range.2 (show 6 < 9 by decide)) rfl).1
   have P7_lo : w1.heap.size ≤ G 6 := Nat.le_trans hz0 hmP7
   have P7_nb : G 6 ≠ b := by have := T0.2.1; omega
   have ngP4_7 : g4 ≠ G 6 := by omega
   have ngP5_7 : g5 ≠ G 6 := by omega
   have ngP6_7 : g6 ≠ G 6 := by omega
   replace T0 := hTT.1
   replace UU := hide hTT.2.1
   clear hS hz0 hTT hI P4_lt P5_lt P6_lt
   dsimp only at hFF
   subst hFF
   generalize G 6 = g7 at *
   go_upto_region 4 with fail
   have P4_lt := P4.lt
   have P5_lt := P5.lt
   have P6_lt := P6.lt
   have P7_lt := P7.lt
   refine wp_evsA [.q, .q, .q, .q, .q, .q, .al, .st 6, .q] [0, 0, 0, 0, 0, 0, 0, 0, 0] (fun R => [.agg C1, .agg C0, .tuple #[.agg M, .bool ok], .tuple #[.agg M, .bool ok], .agg M, .bool ok, undef, undef, .bool ok]) (fun _ => (.cells z21 42 (0, 0))) (fun R _ => (.cells M 42 (0, 0))) (fun _ => 0) (TE b b w1 (XA [])) (fun k => k = b) _ (fun R G => { tmps := #[.slice x len cap, undef, .bool false, .pointer (some ⟨b, 0, none⟩), .pointer (some ⟨g4, 0, none⟩), .pointer (some ⟨g5, 0, none⟩), .pointer (some ⟨g6, 0, none⟩), .pointer (some ⟨g7, 0, none⟩), .bool ok, .pointer (some ⟨G 6, 0, none⟩), .bool ok, undef, undef, undef, undef, undef, undef, undef, undef, .slice x len cap, .pointer (some ⟨b, 0, none⟩), .pointer (some ⟨b, 0, none⟩), .agg C0, .pointer (some ⟨b, 0, none⟩), .agg C1, .pointer (some ⟨b, 0, none⟩), .agg C2, .tuple #[.agg M, .bool ok], .agg C0, .agg C1, .tuple #[.agg M, .bool ok], .agg M, .bool ok, .tuple #[.agg M, .bool ok], .agg C1, .agg C0, .tuple #[.agg M, .bool ok], .agg M, .bool ok, undef, undef, undef, undef, undef, undef, undef, undef, undef, undef, undef, undef, undef, undef, undef, undef, undef, undef, undef, undef, undef, undef, undef, undef, undef, undef, undef, undef, undef, undef, undef, undef, undef, undef, undef, undef, undef, undef, undef, undef, undef, undef, undef, undef, undef, undef, undef, undef, undef, undef, undef, undef, undef, undef, undef, undef, undef, undef, undef, undef, undef, undef, undef, undef, undef, undef, undef, undef, undef, undef, undef, undef, undef, undef, undef, undef, undef, undef, undef, undef, undef, undef, undef, undef, undef, undef, undef, undef, undef, undef, undef, undef, undef, undef], defers := [] }) (by intro R G; kernel_rfl) (fun _ => rfl) (by kernel_rfl) (by kernel_rfl) (by kernel_rfl) rfl (fun _ => rfl) (fun k e => by subst e; exact T0.2.1) (by simp) (by simp) (by simp) (fun R R' => ⟨fun _ => rfl, fun _ => rfl, fun _ => rfl, fun _ => rfl, fun _ => rfl, fun _ => rfl, fun _ => rfl, fun _ => rfl, fun _ => rfl, trivial⟩) (fun _ _ _ _ => rfl) te_below ⟨T0, UU.out, XA.zero⟩ ?ops32 ?end32
   case ops32 =>
     refine ⟨?_, ?_, ?_, ?_, ?_, ?_, ?_, ?_, ?_, trivial⟩
     · refine er_q ?vn24 ?hn24 ?kn24 ?gn24 ?_
       case hn24 => exact rfl
       case vn24 => exact (fun R => .agg C1)
       case kn24 => exact (fun R => rfl)
       case gn24 => exact gd_none rfl
       intro R s w' hT hs hw ha
       have L := ld_all (P5.sameE hw P5_nb (by simp)) uCone rfl iCone sC1
       refine q_load rfl ?_ L
       kernel_rfl
     · refine er_q ?vn25 ?hn25 ?kn25 ?gn25 ?_
       case hn25 => exact rfl
       case vn25 => exact (fun R => .agg C0)
       case kn25 => exact (fun R => rfl)
       case gn25 => exact gd_none rfl
       intro R s w' hT hs hw ha
       have L := ld_all (P4.sameE hw P4_nb (by simp)) uCone rfl iCone sC0
       refine q_load rfl ?_ L
       kernel_rfl
     · refine er_q ?vn26 ?hn26 ?kn26 ?gn26 ?_
       case hn26 => exact rfl
       case vn26 => exact (fun R => .tuple #[.agg M, .bool ok])
       case kn26 => exact (fun R => rfl)
       case gn26 => exact gd_none rfl
       intro R s w' hT hs hw ha
       go_simp
       exact kM2.out w'
     · refine er_q ?vn27 ?hn27 ?kn27 ?gn27 ?_
       case hn27 => exact rfl
       case vn27 => exact (fun R => .tuple #[.agg M, .bool ok])
       case kn27 => exact (fun R => rfl)
       case gn27 => exact gd_none rfl
       intro R s w' hT hs hw ha
       go_simp
     · refine er_q ?vn28 ?hn28 ?kn28 ?gn28 ?_
       case hn28 => exact rfl
       case vn28 => exact (fun R => .agg M)
       case kn28 => exact (fun R => rfl)
       case gn28 => exact gd_none rfl
       intro R s w' hT hs hw ha
       go_simp
     · refine er_q ?vn29 ?hn29 ?kn29 ?gn29 ?_
       case hn29 => exact rfl
       case vn29 => exact (fun R => .bool ok)
       case kn29 => exact (fun R => rfl)
       case gn29 => exact gd_none rfl
       intro R s w' hT hs hw ha
       go_simp
     · refine er_al ?zn30 ?hn30 ?kn30 ?gn30 ?_
       case zn30 => exact (.cells z21 42 (0, 0))
       case hn30 => exact rfl
       case kn30 => exact rfl
       case gn30 => exact gd_none rfl
       intro ρ w'
       go_simp
       exact ⟨rfl, rfl⟩
     · refine er_st (j := 6) (Ty := ?Tn31) (p := ?pn31) (x := ?xn31) ?fn31 ?zn31 ?vn31 ?hn31 ?on31 ?kn31 ?ln31 ?gn31 ?en31 ?_
       case hn31 => exact rfl
       case on31 => exact rfl
       case fn31 => exact (fun R => (.cells M 42 (0, 0)))
       case zn31 => exact (.cells z21 42 (0, 0))
       case vn31 => exact (fun R => .agg M)
       case kn31 => exact (fun R => rfl)
       case ln31 => exact rfl
       case gn31 => exact gd_none rfl
       case en31 =>
         intro R
         kernel_rfl
       intro R s ρ w g hT hs hp hx hg hz
       exact ⟨store_row rfl hp hx hz iCone (sM) (oM), fun w1 hF => te_filled hT hF (Nat.le_trans UU.out.2.2.2.1 hg) (by have := T0.2.1; omega) (by have := T0.1; have := T0.2.1; omega)⟩
     · refine er_q ?vn32 ?hn32 ?kn32 ?gn32 ?_
       case hn32 => exact rfl
       case vn32 => exact (fun R => .bool ok)
       case kn32 => exact (fun R => rfl)
       case gn32 => exact gd_none rfl
       intro R s w' hT hs hw ha
       go_simp
   case end32 =>
    intro sI R G w33 hI FF hFF
    have hS := hI.same
    have hTT := hI.holds
    have hz0 := UU.out.2.2.2.1
    replace P4 := P4.sameE hS P4_nb (by simp)
    replace P5 := P5.sameE hS P5_nb (by simp)
    replace P6 := P6.sameE hS P6_nb (by simp)
    replace P7 := P7.sameE hS P7_nb (by simp)
    have P9 : Blk w33 (G 6) 42 M := (hI.fulls 7 (List.mem_range.2 (show 7 < 9 by decide)) 6 rfl).2.2
    have hmP9 := (hI.made 6 (List.mem_range.2 (show 6 < 9 by decide)) rfl).1
    have P9_lo : w1.heap.size ≤ G 6 := Nat.le_trans hz0 hmP9
    have P9_nb : G 6 ≠ b := by have := T0.2.1; omega
    have ngP4_9 : g4 ≠ G 6 := by omega
    have ngP5_9 : g5 ≠ G 6 := by omega
    have ngP6_9 : g6 ≠ G 6 := by omega
    have ngP7_9 : g7 ≠ G 6 := by omega
    replace T0 := hTT.1
    replace UU := hide hTT.2.1
    clear hS hz0 hTT hI P4_lt P5_lt P6_lt P7_lt
    dsimp only at hFF
    subst hFF
    generalize G 6 = g9 at *
    go_upto_region 5 with fail
    obtain ⟨rowf, hrf⟩ : ∃ f : (Nat → Value) → Array Value, (fun R => rowV (R 0) ++ L0 ++ H1 ++ L2 ++ Sx) = f := ⟨_, rfl⟩
    have hrf := hide hrf
    have P4_lt := P4.lt
    have P5_lt := P5.lt
    have P6_lt := P6.lt
    have P7_lt := P7.lt
    have P9_lt := P9.lt
    refine wp_evA [.q, .ev 0, .q, .q, .q, .q, .q, .q, .q, .q, .ev 1, .q] [0, 0, 0, 0, 0, 0, 0, 0, 0, 0, 1, 2] (fun R => [.pointer (some ⟨b, 0, none⟩), undef, .pointer (some ⟨g4, 1, none⟩), .agg L0, .pointer (some ⟨g5, 11, none⟩), .agg H1, .pointer (some ⟨g6, 1, none⟩), .agg L2, .agg C0, .agg Sx, undef, (R 1)]) (fun _ => (.cells #[] 0 (0, 0))) (fun R _ => (.cells #[] 0 (0, 0))) (fun _ => 0) (TS b b w1 [IsFr] 1 5 40 rowf) (fun k => k = b) _ (fun R G => { tmps := #[.slice x len cap, undef, .bool false, .pointer (some ⟨b, 0, none⟩), .pointer (some ⟨g4, 0, none⟩), .pointer (some ⟨g5, 0, none⟩), .pointer (some ⟨g6, 0, none⟩), .pointer (some ⟨g7, 0, none⟩), .bool ok, .pointer (some ⟨g9, 0, none⟩), .bool ok, (R 1), undef, undef, undef, undef, undef, undef, undef, .slice x len cap, .pointer (some ⟨b, 0, none⟩), .pointer (some ⟨b, 0, none⟩), .agg C0, .pointer (some ⟨b, 0, none⟩), .agg C1, .pointer (some ⟨b, 0, none⟩), .agg C2, .tuple #[.agg M, .bool ok], .agg C0, .agg C1, .tuple #[.agg M, .bool ok], .agg M, .bool ok, .tuple #[.agg M, .bool ok], .agg C1, .agg C0, .tuple #[.agg M, .bool ok], .agg M, .bool ok, .pointer (some ⟨b, 0, none⟩), (R 0), .pointer (some ⟨g4, 1, none⟩), .agg L0, .pointer (some ⟨g5, 11, none⟩), .agg H1, .pointer (some ⟨g6, 1, none⟩), .agg L2, .agg C0, .agg Sx, (R 1), undef, undef, undef, undef, undef, undef, undef, undef, undef, undef, undef, undef, undef, undef, undef, undef, undef, undef, undef, undef, undef, undef, undef, undef, undef, undef, undef, undef, undef, undef, undef, undef, undef, undef, undef, undef, undef, undef, undef, undef, undef, undef, undef, undef, undef, undef, undef, undef, undef, undef, undef, undef, undef, undef, undef, undef, undef, undef, undef, undef, undef, undef, undef, undef, undef, undef, undef, undef, undef, undef, undef, undef, undef, undef, undef, undef, undef, undef, undef, undef, undef, undef, undef], defers := [] }) (by intro R G; kernel_rfl) (fun _ => rfl) (by kernel_rfl) (by kernel_rfl) (by kernel_rfl) (by kernel_rfl) rfl (fun _ => rfl) (fun k e => by subst e; exact T0.2.1) (by simp) (by simp) (by simp) (fun R R' => ⟨fun _ => rfl, fun _ => rfl, fun _ => rfl, fun _ => rfl, fun _ => rfl, fun _ => rfl, fun _ => rfl, fun _ => rfl, fun _ => rfl, fun _ => rfl, fun _ => rfl, fun h => by simp only [h 1 (by decide)], trivial⟩) (fun _ _ _ _ => rfl) ts_below ⟨⟨T0.ext (ext_drew _), UU.out.drew, XA.zero⟩, fun h => absurd h (by decide)⟩ ?ops45 ?end45
    case ops45 =>
      refine ⟨?_, ?_, ?_, ?_, ?_, ?_, ?_, ?_, ?_, ?_, ?_, ?_, trivial⟩
      · refine er_q ?vn34 ?hn34 ?kn34 ?gn34 ?_
        case hn34 => exact rfl
        case vn34 => exact (fun R => .pointer (some ⟨b, 0, none⟩))
        case kn34 => exact (fun R => rfl)
        case gn34 => exact gd_none rfl
        intro R s w' hT hs hw ha
        go_simp
      · refine er_ev (m := 0) ?hn35 ?gn35 ?_
        case hn35 => exact rfl
        case gn35 => exact gd_none rfl
        intro R w' hT hw
        go_simp
        refine (t_ratio b b w' w' hT.1.1 (Upd.refl _ _)).mono ?_
        rintro e w2 ⟨n, d, rfl, hF, hT2, hU2⟩
        exact ⟨_, rfl, ts_ev hT hT2 hU2 (hT.1.2.2.step rfl ⟨n, d, rfl, hF⟩)⟩
      · refine er_q ?vn36 ?hn36 ?kn36 ?gn36 ?_
        case hn36 => exact rfl
        case vn36 => exact (fun R => .pointer (some ⟨g4, 1, none⟩))
        case kn36 => exact (fun R => rfl)
        case gn36 => exact gd_none rfl
        intro R s w' hT hs hw ha
        go_simp
      · refine er_q ?vn37 ?hn37 ?kn37 ?gn37 ?_
        case hn37 => exact rfl
        case vn37 => exact (fun R => .agg L0)
        case kn37 => exact (fun R => rfl)
        case gn37 => exact gd_none rfl
        intro R s w' hT hs hw ha
        have L := run_load_part (P4.sameE hw P4_nb (by simp)) _ _ uRat rfl 1 10 iRat (by rw [sC0]; first | decide | omega) _ (fL0)
        refine q_load rfl ?_ L
        kernel_rfl
      · refine er_q ?vn38 ?hn38 ?kn38 ?gn38 ?_
        case hn38 => exact rfl
        case vn38 => exact (fun R => .pointer (some ⟨g5, 11, none⟩))
        case kn38 => exact (fun R => rfl)
        case gn38 => exact gd_none rfl
        intro R s w' hT hs hw ha
        go_simp
      · refine er_q ?vn39 ?hn39 ?kn39 ?gn39 ?_
        case hn39 => exact rfl
        case vn39 => exact (fun R => .agg H1)
        case kn39 => exact (fun R => rfl)
        case gn39 => exact gd_none rfl
        intro R s w' hT hs hw ha
        have L := run_load_part (P5.sameE hw P5_nb (by simp)) _ _ uRat rfl 11 10 iRat (by rw [sC1]; first | decide | omega) _ (fH1)
        refine q_load rfl ?_ L
        kernel_rfl
      · refine er_q ?vn40 ?hn40 ?kn40 ?gn40 ?_
        case hn40 => exact rfl
        case vn40 => exact (fun R => .pointer (some ⟨g6, 1, none⟩))
        case kn40 => exact (fun R => rfl)
        case gn40 => exact gd_none rfl
        intro R s w' hT hs hw ha
        go_simp
      · refine er_q ?vn41 ?hn41 ?kn41 ?gn41 ?_
        case hn41 => exact rfl
        case vn41 => exact (fun R => .agg L2)
        case kn41 => exact (fun R => rfl)
        case gn41 => exact gd_none rfl
        intro R s w' hT hs hw ha
        have L := run_load_part (P6.sameE hw P6_nb (by simp)) _ _ uRat rfl 1 10 iRat (by rw [sC2]; first | decide | omega) _ (fL2)
        refine q_load rfl ?_ L
        kernel_rfl
      · refine er_q ?vn42 ?hn42 ?kn42 ?gn42 ?_
        case hn42 => exact rfl
        case vn42 => exact (fun R => .agg C0)
        case kn42 => exact (fun R => rfl)
        case gn42 => exact gd_none rfl
        intro R s w' hT hs hw ha
        have L := ld_all (P4.sameE hw P4_nb (by simp)) uCone rfl iCone sC0
        refine q_load rfl ?_ L
        kernel_rfl
      · refine er_q ?vn43 ?hn43 ?kn43 ?gn43 ?_
        case hn43 => exact rfl
        case vn43 => exact (fun R => .agg Sx)
        case kn43 => exact (fun R => rfl)
        case gn43 => exact gd_none rfl
        intro R s w' hT hs hw ha
        go_simp
        exact kC.out w'
      · refine er_ev (m := 1) ?hn44 ?gn44 ?_
        case hn44 => exact rfl
        case gn44 => exact gd_none rfl
        intro R w' hT hw
        obtain ⟨n0, d0, e0, hF0⟩ := hT.1.2.2.get 0 rfl (by omega)
        have q0 : rowV (R 0) = frC (n0, d0) := by rw [e0]; rfl
        have a0 : R 0 = .agg (rowV (R 0)) := by rw [e0]; rfl
        have hrw : rowf R = rowV (R 0) ++ L0 ++ H1 ++ L2 ++ Sx := by rw [← hrf.out]
        refine ev_rats5 (S0 := rowV (R 0)) (S1 := L0) (S2 := H1) (S3 := L2) (S4 := Sx) rfl (Eq.trans (b := #[(0, R 0), (1, .agg L0), (2, .agg H1), (3, .agg L2), (4, .agg Sx)]) ?_ (by rw [← a0])) (by rw [q0]; exact frC_rc _) (rL0.rc) (rH1.rc) (rL2.rc) (rS4.rc) ⟨te_below' hT.1 (below_alloc _ _), fun _ => ⟨w'.heap.size, by unfold updR; rw [if_pos rfl], ?_, ?_⟩⟩ (Below.growE (below_alloc _ _))
        · kernel_rfl
        · exact hT.1.2.1.2.2.2.1
        · have hb := Blk.new w' 40 (rowV (R 0) ++ L0 ++ H1 ++ L2 ++ Sx)
          have hu : rowf (updR R 1 (.slice (some ⟨w'.heap.size, 0, none⟩) 5 5)) = rowV (R 0) ++ L0 ++ H1 ++ L2 ++ Sx := by rw [← hrf.out]; rfl
          rw [hu]
          exact hb
      · refine er_q ?vn45 ?hn45 ?kn45 ?gn45 ?_
        case hn45 => exact rfl
        case vn45 => exact (fun R => (R 1))
        case kn45 => exact (fun R => rfl)
        case gn45 => exact gd_none rfl
        intro R s w' hT hs hw ha
        go_simp
    case end45 =>
     intro sI R G w46 hI FF hFF
     have hS := hI.same
     have hTT := hI.holds
     have hz0 := UU.out.2.2.2.1
     have hsl : 1 < sI := (hI.stage 10 (show 10 < 12 by decide) 1 rfl).1 (List.mem_range.2 (show 10 < 12 by decide))
     obtain ⟨gl, el, hgl, PL⟩ := hTT.2 hsl
     have hTT := hTT.1
     have hs0 : 0 < sI := (hI.stage 1 (show 1 < 12 by decide) 0 rfl).1 (List.mem_range.2 (show 1 < 12 by decide))
     obtain ⟨n0, d0, e0, hF0⟩ := hTT.2.2.get 0 rfl hs0
     replace P4 := P4.sameE hS P4_nb (by simp)
     replace P5 := P5.sameE hS P5_nb (by simp)
     replace P6 := P6.sameE hS P6_nb (by simp)
     replace P7 := P7.sameE hS P7_nb (by simp)
     replace P9 := P9.sameE hS P9_nb (by simp)
     replace T0 := hTT.1
     replace UU := hide hTT.2.1
     clear hS hz0 hTT hI P4_lt P5_lt P6_lt P7_lt P9_lt
     dsimp only at hFF
     subst hFF
     (try simp only [e0])
     rw [← hrf.out] at PL
     have PL : Blk _ _ _ (rowV (R 0) ++ L0 ++ H1 ++ L2 ++ Sx) := PL
     rw [e0] at PL
     rw [el]
     change Blk _ _ _ ((frC (n0, d0)) ++ L0 ++ H1 ++ L2 ++ Sx) at PL
     clear el hrf
     clear e0
     have rN : RawR (frC (n0, d0)) := Or.inl ⟨(n0, d0), hF0, rfl⟩
     obtain ⟨Nx, hNx⟩ : ∃ C, frC (n0, d0) = C := ⟨_, rfl⟩
     rw [hNx] at rN PL
     try rw [hNx]
     clear hNx hF0
     obtain ⟨sLR, hparts⟩ := part5 rN.rc rL0.rc rH1.rc rL2.rc rS4.rc
     have Hpart : Hid (∀ k, k < 5 → ∃ S, RawR S ∧ (Nx ++ L0 ++ H1 ++ L2 ++ Sx).extract (k * 10) (k * 10 + 10) = S) := hide (fun k hk => by
       obtain ⟨S, hS, e⟩ := hparts k hk
       refine ⟨S, ?_, e⟩
       rcases hS with ⟨_, rfl⟩ | ⟨_, rfl⟩ | ⟨_, rfl⟩ | ⟨_, rfl⟩ | ⟨_, rfl⟩ <;> assumption)
     obtain ⟨LR, hLR⟩ : ∃ C, Nx ++ L0 ++ H1 ++ L2 ++ Sx = C := ⟨_, rfl⟩
     rw [hLR] at PL sLR Hpart
     clear hLR hparts rN rL0 rH1 rL2 rS4 fL0 fH1 fL2 kC kM kM2
     have Hc4 : Hid (∀ S, RawR S → ∃ va vb : Bool, (∀ w, Calls Try.prog 24 #[.agg C0, .agg S] w (Ret (.bool va) w)) ∧ (∀ w, Calls Try.prog 24 #[.agg C1, .agg S] w (Ret (.bool vb) w)) ∧ (ok = true → ∀ w, Calls Try.prog 24 #[.agg M, .agg S] w (Ret (.bool (va && vb)) w)) ∧ (ok = false → (va && vb) = false)) := hide (fun S hS => by
       obtain ⟨va, vb, k1, k2, k3, k4⟩ := Hc3.out S hS
       refine ⟨va, vb, k1, k2, fun h => ?_, fun h => ?_⟩
       · rcases hm : m0 with _ | q
         · rw [← Hok.out, hm] at h; cases h
         · rw [← HM.out.1, hm]; exact k3 q hm
       · rcases hm : m0 with _ | q
         · exact k4 hm
         · rw [← Hok.out, hm] at h; cases h)
     have EE : Hid (Ext W w46) := hide (UU.out.ext EE.out (by rw [HB.out]; exact Nat.le_refl _))
     clear T0 UU Hc3 HM Hok hBw
     go_upto_region 6 with fail
     go_wp2_with fail
     go_loopw [12] (fun iv wr => ∃ k : Nat, k ≤ 5 ∧ iv = .int .i64 (k : Int) ∧ Hid (Ext w46 wr)) (fun iv _ => 5 - (intOf iv).toNat)
     case atStart => exact ⟨0, by omega, rfl, hide (Ext.refl _)⟩
     case round =>
       obtain ⟨k, hk, rfl, HE⟩ := hrel
       have P4 := P4.ext HE.out
       have P5 := P5.ext HE.out
       have P6 := P6.ext HE.out
       have P7 := P7.ext HE.out
       have P9 := P9.ext HE.out
       have PL := PL.ext HE.out
       have EW : Hid (Ext W wr) := hide (EE.out.trans HE.out)
       by_cases hlt : k < 5
       · have d0 : decide ((k : Int) < 5) = true := decide_eq_true (by omega)
         obtain ⟨S, rS, eS⟩ := Hpart.out k hlt
         obtain ⟨va, vb, ka, kb, km, kn⟩ := Hc4.out S rS
         obtain ⟨k10, hk10⟩ : ∃ q, k * 10 = q := ⟨_, rfl⟩
         rw [hk10] at eS
         have ix := hide (fun w => idxR gl 5 5 k k10 hlt hk10 w)
         have h50 : k10 + 10 ≤ 50 := by omega
         have sS := rS.rc.size
         have oS := rS.rc.one
         have ka := hide ka
         have kb := hide kb
         have EE : Hid (Ext wr wr) := Ext.refl _
         go_upto_region 9 with fail
         rcases Bool.eq_false_or_eq_true ok with rfl | rfl <;> rcases Bool.eq_false_or_eq_true va with rfl | rfl
         · skip
           have km := hide (km rfl)
           have en : ((true && vb) != vb) = false := by cases vb <;> rfl
           have P4_lt := P4.lt
           have P5_lt := P5.lt
           have P6_lt := P6.lt
           have P7_lt := P7.lt
           have P9_lt := P9.lt
           have PL_lt := PL.lt
           refine wp_evA [.q, .q, .q, .q, .q, .q, .q, .q, .q, .q, .q, .q, .q, .q, .q, .q, .q, .q, .q, .q, .q, .q, .q, .q] [0, 0, 0, 0, 0, 0, 0, 0, 0, 0, 0, 0, 0, 0, 0, 0, 0, 0, 0, 0, 0, 0, 0, 0] (fun R => [.bool true, .bool true, .agg M, .slice (some ⟨gl, 0, none⟩) 5 5, .int .i64 (k : Int), .pointer (some ⟨gl, k10, none⟩), .agg S, .bool (true && vb), .bool (true && vb), .agg C0, .slice (some ⟨gl, 0, none⟩) 5 5, .int .i64 (k : Int), .pointer (some ⟨gl, k10, none⟩), .agg S, .bool true, .bool true, .agg C1, .slice (some ⟨gl, 0, none⟩) 5 5, .int .i64 (k : Int), .pointer (some ⟨gl, k10, none⟩), .agg S, .bool vb, .bool vb, .bool false]) (fun _ => (.cells #[] 0 (0, 0))) (fun R _ => (.cells #[] 0 (0, 0))) (fun _ => 0) (XE wr) (fun _ => False) _ (fun R G => { tmps := #[.slice x len cap, undef, u2, .pointer (some ⟨b, 0, none⟩), .pointer (some ⟨g4, 0, none⟩), .pointer (some ⟨g5, 0, none⟩), .pointer (some ⟨g6, 0, none⟩), .pointer (some ⟨g7, 0, none⟩), .bool true, .pointer (some ⟨g9, 0, none⟩), .bool true, .slice (some ⟨gl, 0, none⟩) 5 5, .int .i64 (k : Int), undef, undef, undef, undef, undef, undef, .slice x len cap, .pointer (some ⟨b, 0, none⟩), .pointer (some ⟨b, 0, none⟩), .agg C0, .pointer (some ⟨b, 0, none⟩), .agg C1, .pointer (some ⟨b, 0, none⟩), .agg C2, .tuple #[.agg M, .bool true], .agg C0, .agg C1, .tuple #[.agg M, .bool true], .agg M, .bool true, .tuple #[.agg M, .bool true], .agg C1, .agg C0, .tuple #[.agg M, .bool true], .agg M, .bool true, .pointer (some ⟨b, 0, none⟩), .agg Nx, .pointer (some ⟨g4, 1, none⟩), .agg L0, .pointer (some ⟨g5, 11, none⟩), .agg H1, .pointer (some ⟨g6, 1, none⟩), .agg L2, .agg C0, .agg Sx, .slice (some ⟨gl, 0, none⟩) 5 5, .int .i64 (k : Int), .slice (some ⟨gl, 0, none⟩) 5 5, .int .i64 5, .bool true, u54, u55, .bool true, .bool true, .agg M, .slice (some ⟨gl, 0, none⟩) 5 5, .int .i64 (k : Int), .pointer (some ⟨gl, k10, none⟩), .agg S, .bool (true && vb), .bool (true && vb), .agg C0, .slice (some ⟨gl, 0, none⟩) 5 5, .int .i64 (k : Int), .pointer (some ⟨gl, k10, none⟩), .agg S, .bool true, .bool true, .agg C1, .slice (some ⟨gl, 0, none⟩) 5 5, .int .i64 (k : Int), .pointer (some ⟨gl, k10, none⟩), .agg S, .bool vb, .bool vb, .bool false, undef, undef, undef, undef, undef, undef, undef, undef, undef, undef, undef, undef, undef, undef, undef, undef, undef, undef, undef, undef, undef, undef, undef, undef, undef, undef, undef, undef, undef, undef, undef, undef, undef, undef, undef, undef, undef, undef, undef, undef, undef, undef, undef, undef, undef, undef, undef, undef, undef, undef, undef, undef, undef], defers := [] }) (by intro R G; kernel_rfl) (fun _ => rfl) (by kernel_rfl) (by kernel_rfl) (by kernel_rfl) (by kernel_rfl) rfl (fun _ => rfl) (fun _ h => h.elim) (fun _ _ h => h) (by simp) (by simp) (fun R R' => ⟨fun _ => rfl, fun _ => rfl, fun _ => rfl, fun _ => rfl, fun _ => rfl, fun _ => rfl, fun _ => rfl, fun _ => rfl, fun _ => rfl, fun _ => rfl, fun _ => rfl, fun _ => rfl, fun _ => rfl, fun _ => rfl, fun _ => rfl, fun _ => rfl, fun _ => rfl, fun _ => rfl, fun _ => rfl, fun _ => rfl, fun _ => rfl, fun _ => rfl, fun _ => rfl, fun _ => rfl, trivial⟩) (fun _ _ _ _ => rfl) xe_below (EE.out.trans (ext_drew _)) ?ops70 ?end70
           case ops70 =>
             refine ⟨?_, ?_, ?_, ?_, ?_, ?_, ?_, ?_, ?_, ?_, ?_, ?_, ?_, ?_, ?_, ?_, ?_, ?_, ?_, ?_, ?_, ?_, ?_, ?_, trivial⟩
             · refine er_q ?vn47 ?hn47 ?kn47 ?gn47 ?_
               case hn47 => exact rfl
               case vn47 => exact (fun R => .bool true)
               case kn47 => exact (fun R => rfl)
               case gn47 => exact gd_none rfl
               intro R s w' hT hs hw ha
               go_simp
             · refine er_q ?vn48 ?hn48 ?kn48 ?gn48 ?_
               case hn48 => exact rfl
               case vn48 => exact (fun R => .bool true)
               case kn48 => exact (fun R => rfl)
               case gn48 => exact gd_none rfl
               intro R s w' hT hs hw ha
               go_simp
             · refine er_q ?vn49 ?hn49 ?kn49 ?gn49 ?_
               case hn49 => exact rfl
               case vn49 => exact (fun R => .agg M)
               case kn49 => exact (fun R => rfl)
               case gn49 => (refine gd_some rfl ?_; intro R; kernel_rfl)
               intro R s w' hT hs hw ha
               have L := ld_all (P7.sameE hw (fun h => h) (by simp)) uCone rfl iCone sM
               refine q_load rfl ?_ L
               kernel_rfl
             · refine er_q ?vn50 ?hn50 ?kn50 ?gn50 ?_
               case hn50 => exact rfl
               case vn50 => exact (fun R => .slice (some ⟨gl, 0, none⟩) 5 5)
               case kn50 => exact (fun R => rfl)
               case gn50 => (refine gd_some rfl ?_; intro R; kernel_rfl)
               intro R s w' hT hs hw ha
               go_simp
             · refine er_q ?vn51 ?hn51 ?kn51 ?gn51 ?_
               case hn51 => exact rfl
               case vn51 => exact (fun R => .int .i64 (k : Int))
               case kn51 => exact (fun R => rfl)
               case gn51 => (refine gd_some rfl ?_; intro R; kernel_rfl)
               intro R s w' hT hs hw ha
               go_simp
             · refine er_q ?vn52 ?hn52 ?kn52 ?gn52 ?_
               case hn52 => exact rfl
               case vn52 => exact (fun R => .pointer (some ⟨gl, k10, none⟩))
               case kn52 => exact (fun R => rfl)
               case gn52 => (refine gd_some rfl ?_; intro R; kernel_rfl)
               intro R s w' hT hs hw ha
               refine q_idx rfl ?_ ?_ (ix.out w')
               · kernel_rfl
               · kernel_rfl
             · refine er_q ?vn53 ?hn53 ?kn53 ?gn53 ?_
               case hn53 => exact rfl
               case vn53 => exact (fun R => .agg S)
               case kn53 => exact (fun R => rfl)
               case gn53 => (refine gd_some rfl ?_; intro R; kernel_rfl)
               intro R s w' hT hs hw ha
               have L := run_load_part (PL.sameE hw (fun h => h) (by simp)) _ _ uRat rfl k10 10 iRat (by rw [sLR]; first | decide | omega) _ (eS)
               refine q_load rfl ?_ L
               kernel_rfl
             · refine er_q ?vn54 ?hn54 ?kn54 ?gn54 ?_
               case hn54 => exact rfl
               case vn54 => exact (fun R => .bool (true && vb))
               case kn54 => exact (fun R => rfl)
               case gn54 => (refine gd_some rfl ?_; intro R; kernel_rfl)
               intro R s w' hT hs hw ha
               go_simp
               exact km.out w'
             · refine er_q ?vn55 ?hn55 ?kn55 ?gn55 ?_
               case hn55 => exact rfl
               case vn55 => exact (fun R => .bool (true && vb))
               case kn55 => exact (fun R => rfl)
               case gn55 => exact gd_none rfl
               intro R s w' hT hs hw ha
               go_simp
             · refine er_q ?vn56 ?hn56 ?kn56 ?gn56 ?_
               case hn56 => exact rfl
               case vn56 => exact (fun R => .agg C0)
               case kn56 => exact (fun R => rfl)
               case gn56 => exact gd_none rfl
               intro R s w' hT hs hw ha
               have L := ld_all (P4.sameE hw (fun h => h) (by simp)) uCone rfl iCone sC0
               refine q_load rfl ?_ L
               kernel_rfl
             · refine er_q ?vn57 ?hn57 ?kn57 ?gn57 ?_
               case hn57 => exact rfl
               case vn57 => exact (fun R => .slice (some ⟨gl, 0, none⟩) 5 5)
               case kn57 => exact (fun R => rfl)
               case gn57 => exact gd_none rfl
               intro R s w' hT hs hw ha
               go_simp
             · refine er_q ?vn58 ?hn58 ?kn58 ?gn58 ?_
               case hn58 => exact rfl
               case vn58 => exact (fun R => .int .i64 (k : Int))
               case kn58 => exact (fun R => rfl)
               case gn58 => exact gd_none rfl
               intro R s w' hT hs hw ha
               go_simp
             · refine er_q ?vn59 ?hn59 ?kn59 ?gn59 ?_
               case hn59 => exact rfl
               case vn59 => exact (fun R => .pointer (some ⟨gl, k10, none⟩))
               case kn59 => exact (fun R => rfl)
               case gn59 => exact gd_none rfl
               intro R s w' hT hs hw ha
               refine q_idx rfl ?_ ?_ (ix.out w')
               · kernel_rfl
               · kernel_rfl
             · refine er_q ?vn60 ?hn60 ?kn60 ?gn60 ?_
               case hn60 => exact rfl
               case vn60 => exact (fun R => .agg S)
               case kn60 => exact (fun R => rfl)
               case gn60 => exact gd_none rfl
               intro R s w' hT hs hw ha
               have L := run_load_part (PL.sameE hw (fun h => h) (by simp)) _ _ uRat rfl k10 10 iRat (by rw [sLR]; first | decide | omega) _ (eS)
               refine q_load rfl ?_ L
               kernel_rfl
             · refine er_q ?vn61 ?hn61 ?kn61 ?gn61 ?_
               case hn61 => exact rfl
               case vn61 => exact (fun R => .bool true)
               case kn61 => exact (fun R => rfl)
               case gn61 => exact gd_none rfl
               intro R s w' hT hs hw ha
               go_simp
               exact ka.out w'
             · refine er_q ?vn62 ?hn62 ?kn62 ?gn62 ?_
               case hn62 => exact rfl
               case vn62 => exact (fun R => .bool true)
               case kn62 => exact (fun R => rfl)
               case gn62 => exact gd_none rfl
               intro R s w' hT hs hw ha
               go_simp
             · refine er_q ?vn63 ?hn63 ?kn63 ?gn63 ?_
               case hn63 => exact rfl
               case vn63 => exact (fun R => .agg C1)
               case kn63 => exact (fun R => rfl)
               case gn63 => (refine gd_some rfl ?_; intro R; kernel_rfl)
               intro R s w' hT hs hw ha
               have L := ld_all (P5.sameE hw (fun h => h) (by simp)) uCone rfl iCone sC1
               refine q_load rfl ?_ L
               kernel_rfl
             · refine er_q ?vn64 ?hn64 ?kn64 ?gn64 ?_
               case hn64 => exact rfl
               case vn64 => exact (fun R => .slice (some ⟨gl, 0, none⟩) 5 5)
               case kn64 => exact (fun R => rfl)
               case gn64 => (refine gd_some rfl ?_; intro R; kernel_rfl)
               intro R s w' hT hs hw ha
               go_simp
             · refine er_q ?vn65 ?hn65 ?kn65 ?gn65 ?_
               case hn65 => exact rfl
               case vn65 => exact (fun R => .int .i64 (k : Int))
               case kn65 => exact (fun R => rfl)
               case gn65 => (refine gd_some rfl ?_; intro R; kernel_rfl)
               intro R s w' hT hs hw ha
               go_simp
             · refine er_q ?vn66 ?hn66 ?kn66 ?gn66 ?_
               case hn66 => exact rfl
               case vn66 => exact (fun R => .pointer (some ⟨gl, k10, none⟩))
               case kn66 => exact (fun R => rfl)
               case gn66 => (refine gd_some rfl ?_; intro R; kernel_rfl)
               intro R s w' hT hs hw ha
               refine q_idx rfl ?_ ?_ (ix.out w')
               · kernel_rfl
               · kernel_rfl
             · refine er_q ?vn67 ?hn67 ?kn67 ?gn67 ?_
               case hn67 => exact rfl
               case vn67 => exact (fun R => .agg S)
               case kn67 => exact (fun R => rfl)
               case gn67 => (refine gd_some rfl ?_; intro R; kernel_rfl)
               intro R s w' hT hs hw ha
               have L := run_load_part (PL.sameE hw (fun h => h) (by simp)) _ _ uRat rfl k10 10 iRat (by rw [sLR]; first | decide | omega) _ (eS)
               refine q_load rfl ?_ L
               kernel_rfl
             · refine er_q ?vn68 ?hn68 ?kn68 ?gn68 ?_
               case hn68 => exact rfl
               case vn68 => exact (fun R => .bool vb)
               case kn68 => exact (fun R => rfl)
               case gn68 => (refine gd_some rfl ?_; intro R; kernel_rfl)
               intro R s w' hT hs hw ha
               go_simp
               exact kb.out w'
             · refine er_q ?vn69 ?hn69 ?kn69 ?gn69 ?_
               case hn69 => exact rfl
               case vn69 => exact (fun R => .bool vb)
               case kn69 => exact (fun R => rfl)
               case gn69 => exact gd_none rfl
               intro R s w' hT hs hw ha
               go_simp
             · refine er_q ?vn70 ?hn70 ?kn70 ?gn70 ?_
               case hn70 => exact rfl
               case vn70 => exact (fun R => .bool false)
               case kn70 => exact (fun R => rfl)
               case gn70 => exact gd_none rfl
               intro R s w' hT hs hw ha
               go_simp
           case end70 =>
            intro sI R G w71 hI FF hFF
            have hS := hI.same
            have hTT := hI.holds
            have hz0 := EE.out.size
            replace P4 := P4.sameE hS (fun h => h) (by simp)
            replace P5 := P5.sameE hS (fun h => h) (by simp)
            replace P6 := P6.sameE hS (fun h => h) (by simp)
            replace P7 := P7.sameE hS (fun h => h) (by simp)
            replace P9 := P9.sameE hS (fun h => h) (by simp)
            replace PL := PL.sameE hS (fun h => h) (by simp)
            replace EE := hide (show Ext _ _ from hTT)
            clear hS hz0 hTT hI P4_lt P5_lt P6_lt P7_lt P9_lt PL_lt
            dsimp only at hFF
            subst hFF
            go_wp2_with fail
            go_roundw
            case rel => exact ⟨k + 1, by omega, by go_num, hide (HE.out.trans EE.out)⟩
            case measure => simp [intOf]; omega
         · skip
           have km := hide (km rfl)
           have en : ((false && vb) != false) = false := by cases vb <;> rfl
           have P4_lt := P4.lt
           have P5_lt := P5.lt
           have P6_lt := P6.lt
           have P7_lt := P7.lt
           have P9_lt := P9.lt
           have PL_lt := PL.lt
           refine wp_evA [.q, .q, .q, .q, .q, .q, .q, .q, .q, .q, .q, .q, .q, .q, .q, .q, .sk, .sk, .sk, .sk, .sk, .sk, .q, .q] [0, 0, 0, 0, 0, 0, 0, 0, 0, 0, 0, 0, 0, 0, 0, 0, 0, 0, 0, 0, 0, 0, 0, 0] (fun R => [.bool true, .bool true, .agg M, .slice (some ⟨gl, 0, none⟩) 5 5, .int .i64 (k : Int), .pointer (some ⟨gl, k10, none⟩), .agg S, .bool (false && vb), .bool (false && vb), .agg C0, .slice (some ⟨gl, 0, none⟩) 5 5, .int .i64 (k : Int), .pointer (some ⟨gl, k10, none⟩), .agg S, .bool false, .bool false, undef, undef, undef, undef, undef, undef, .bool false, .bool false]) (fun _ => (.cells #[] 0 (0, 0))) (fun R _ => (.cells #[] 0 (0, 0))) (fun _ => 0) (XE wr) (fun _ => False) _ (fun R G => { tmps := #[.slice x len cap, undef, u2, .pointer (some ⟨b, 0, none⟩), .pointer (some ⟨g4, 0, none⟩), .pointer (some ⟨g5, 0, none⟩), .pointer (some ⟨g6, 0, none⟩), .pointer (some ⟨g7, 0, none⟩), .bool true, .pointer (some ⟨g9, 0, none⟩), .bool true, .slice (some ⟨gl, 0, none⟩) 5 5, .int .i64 (k : Int), undef, undef, undef, undef, undef, undef, .slice x len cap, .pointer (some ⟨b, 0, none⟩), .pointer (some ⟨b, 0, none⟩), .agg C0, .pointer (some ⟨b, 0, none⟩), .agg C1, .pointer (some ⟨b, 0, none⟩), .agg C2, .tuple #[.agg M, .bool true], .agg C0, .agg C1, .tuple #[.agg M, .bool true], .agg M, .bool true, .tuple #[.agg M, .bool true], .agg C1, .agg C0, .tuple #[.agg M, .bool true], .agg M, .bool true, .pointer (some ⟨b, 0, none⟩), .agg Nx, .pointer (some ⟨g4, 1, none⟩), .agg L0, .pointer (some ⟨g5, 11, none⟩), .agg H1, .pointer (some ⟨g6, 1, none⟩), .agg L2, .agg C0, .agg Sx, .slice (some ⟨gl, 0, none⟩) 5 5, .int .i64 (k : Int), .slice (some ⟨gl, 0, none⟩) 5 5, .int .i64 5, .bool true, u54, u55, .bool true, .bool true, .agg M, .slice (some ⟨gl, 0, none⟩) 5 5, .int .i64 (k : Int), .pointer (some ⟨gl, k10, none⟩), .agg S, .bool (false && vb), .bool (false && vb), .agg C0, .slice (some ⟨gl, 0, none⟩) 5 5, .int .i64 (k : Int), .pointer (some ⟨gl, k10, none⟩), .agg S, .bool false, .bool false, undef, undef, undef, undef, undef, undef, .bool false, .bool false, undef, undef, undef, undef, undef, undef, undef, undef, undef, undef, undef, undef, undef, undef, undef, undef, undef, undef, undef, undef, undef, undef, undef, undef, undef, undef, undef, undef, undef, undef, undef, undef, undef, undef, undef, undef, undef, undef, undef, undef, undef, undef, undef, undef, undef, undef, undef, undef, undef, undef, undef, undef, undef], defers := [] }) (by intro R G; kernel_rfl) (fun _ => rfl) (by kernel_rfl) (by kernel_rfl) (by kernel_rfl) (by kernel_rfl) rfl (fun _ => rfl) (fun _ h => h.elim) (fun _ _ h => h) (by simp) (by simp) (fun R R' => ⟨fun _ => rfl, fun _ => rfl, fun _ => rfl, fun _ => rfl, fun _ => rfl, fun _ => rfl, fun _ => rfl, fun _ => rfl, fun _ => rfl, fun _ => rfl, fun _ => rfl, fun _ => rfl, fun _ => rfl, fun _ => rfl, fun _ => rfl, fun _ => rfl, fun _ => rfl, fun _ => rfl, fun _ => rfl, fun _ => rfl, fun _ => rfl, fun _ => rfl, fun _ => rfl, fun _ => rfl, trivial⟩) (fun _ _ _ _ => rfl) xe_below (EE.out.trans (ext_drew _)) ?ops370 ?end370
           case ops370 =>
             refine ⟨?_, ?_, ?_, ?_, ?_, ?_, ?_, ?_, ?_, ?_, ?_, ?_, ?_, ?_, ?_, ?_, ?_, ?_, ?_, ?_, ?_, ?_, ?_, ?_, trivial⟩
             · refine er_q ?vn347 ?hn347 ?kn347 ?gn347 ?_
               case hn347 => exact rfl
               case vn347 => exact (fun R => .bool true)
               case kn347 => exact (fun R => rfl)
               case gn347 => exact gd_none rfl
               intro R s w' hT hs hw ha
               go_simp
             · refine er_q ?vn348 ?hn348 ?kn348 ?gn348 ?_
               case hn348 => exact rfl
               case vn348 => exact (fun R => .bool true)
               case kn348 => exact (fun R => rfl)
               case gn348 => exact gd_none rfl
               intro R s w' hT hs hw ha
               go_simp
             · refine er_q ?vn349 ?hn349 ?kn349 ?gn349 ?_
               case hn349 => exact rfl
               case vn349 => exact (fun R => .agg M)
               case kn349 => exact (fun R => rfl)
               case gn349 => (refine gd_some rfl ?_; intro R; kernel_rfl)
               intro R s w' hT hs hw ha
               have L := ld_all (P7.sameE hw (fun h => h) (by simp)) uCone rfl iCone sM
               refine q_load rfl ?_ L
               kernel_rfl
             · refine er_q ?vn350 ?hn350 ?kn350 ?gn350 ?_
               case hn350 => exact rfl
               case vn350 => exact (fun R => .slice (some ⟨gl, 0, none⟩) 5 5)
               case kn350 => exact (fun R => rfl)
               case gn350 => (refine gd_some rfl ?_; intro R; kernel_rfl)
               intro R s w' hT hs hw ha
               go_simp
             · refine er_q ?vn351 ?hn351 ?kn351 ?gn351 ?_
               case hn351 => exact rfl
               case vn351 => exact (fun R => .int .i64 (k : Int))
               case kn351 => exact (fun R => rfl)
               case gn351 => (refine gd_some rfl ?_; intro R; kernel_rfl)
               intro R s w' hT hs hw ha
               go_simp
             · refine er_q ?vn352 ?hn352 ?kn352 ?gn352 ?_
               case hn352 => exact rfl
               case vn352 => exact (fun R => .pointer (some ⟨gl, k10, none⟩))
               case kn352 => exact (fun R => rfl)
               case gn352 => (refine gd_some rfl ?_; intro R; kernel_rfl)
               intro R s w' hT hs hw ha
               refine q_idx rfl ?_ ?_ (ix.out w')
               · kernel_rfl
               · kernel_rfl
             · refine er_q ?vn353 ?hn353 ?kn353 ?gn353 ?_
               case hn353 => exact rfl
               case vn353 => exact (fun R => .agg S)
               case kn353 => exact (fun R => rfl)
               case gn353 => (refine gd_some rfl ?_; intro R; kernel_rfl)
               intro R s w' hT hs hw ha
               have L := run_load_part (PL.sameE hw (fun h => h) (by simp)) _ _ uRat rfl k10 10 iRat (by rw [sLR]; first | decide | omega) _ (eS)
               refine q_load rfl ?_ L
               kernel_rfl
             · refine er_q ?vn354 ?hn354 ?kn354 ?gn354 ?_
               case hn354 => exact rfl
               case vn354 => exact (fun R => .bool (false && vb))
               case kn354 => exact (fun R => rfl)
               case gn354 => (refine gd_some rfl ?_; intro R; kernel_rfl)
               intro R s w' hT hs hw ha
               go_simp
               exact km.out w'
             · refine er_q ?vn355 ?hn355 ?kn355 ?gn355 ?_
               case hn355 => exact rfl
               case vn355 => exact (fun R => .bool (false && vb))
               case kn355 => exact (fun R => rfl)
               case gn355 => exact gd_none rfl
               intro R s w' hT hs hw ha
               go_simp
             · refine er_q ?vn356 ?hn356 ?kn356 ?gn356 ?_
               case hn356 => exact rfl
               case vn356 => exact (fun R => .agg C0)
               case kn356 => exact (fun R => rfl)
               case gn356 => exact gd_none rfl
               intro R s w' hT hs hw ha
               have L := ld_all (P4.sameE hw (fun h => h) (by simp)) uCone rfl iCone sC0
               refine q_load rfl ?_ L
               kernel_rfl
             · refine er_q ?vn357 ?hn357 ?kn357 ?gn357 ?_
               case hn357 => exact rfl
               case vn357 => exact (fun R => .slice (some ⟨gl, 0, none⟩) 5 5)
               case kn357 => exact (fun R => rfl)
               case gn357 => exact gd_none rfl
               intro R s w' hT hs hw ha
               go_simp
             · refine er_q ?vn358 ?hn358 ?kn358 ?gn358 ?_
               case hn358 => exact rfl
               case vn358 => exact (fun R => .int .i64 (k : Int))
               case kn358 => exact (fun R => rfl)
               case gn358 => exact gd_none rfl
               intro R s w' hT hs hw ha
               go_simp
             · refine er_q ?vn359 ?hn359 ?kn359 ?gn359 ?_
               case hn359 => exact rfl
               case vn359 => exact (fun R => .pointer (some ⟨gl, k10, none⟩))
               case kn359 => exact (fun R => rfl)
               case gn359 => exact gd_none rfl
               intro R s w' hT hs hw ha
               refine q_idx rfl ?_ ?_ (ix.out w')
               · kernel_rfl
               · kernel_rfl
             · refine er_q ?vn360 ?hn360 ?kn360 ?gn360 ?_
               case hn360 => exact rfl
               case vn360 => exact (fun R => .agg S)
               case kn360 => exact (fun R => rfl)
               case gn360 => exact gd_none rfl
               intro R s w' hT hs hw ha
               have L := run_load_part (PL.sameE hw (fun h => h) (by simp)) _ _ uRat rfl k10 10 iRat (by rw [sLR]; first | decide | omega) _ (eS)
               refine q_load rfl ?_ L
               kernel_rfl
             · refine er_q ?vn361 ?hn361 ?kn361 ?gn361 ?_
               case hn361 => exact rfl
               case vn361 => exact (fun R => .bool false)
               case kn361 => exact (fun R => rfl)
               case gn361 => exact gd_none rfl
               intro R s w' hT hs hw ha
               go_simp
               exact ka.out w'
             · refine er_q ?vn362 ?hn362 ?kn362 ?gn362 ?_
               case hn362 => exact rfl
               case vn362 => exact (fun R => .bool false)
               case kn362 => exact (fun R => rfl)
               case gn362 => exact gd_none rfl
               intro R s w' hT hs hw ha
               go_simp
             · refine er_sk ?hn363 ?gn363
               case hn363 => exact rfl
               case gn363 => (refine gd_some rfl ?_; intro R; kernel_rfl)
             · refine er_sk ?hn364 ?gn364
               case hn364 => exact rfl
               case gn364 => (refine gd_some rfl ?_; intro R; kernel_rfl)
             · refine er_sk ?hn365 ?gn365
               case hn365 => exact rfl
               case gn365 => (refine gd_some rfl ?_; intro R; kernel_rfl)
             · refine er_sk ?hn366 ?gn366
               case hn366 => exact rfl
               case gn366 => (refine gd_some rfl ?_; intro R; kernel_rfl)
             · refine er_sk ?hn367 ?gn367
               case hn367 => exact rfl
               case gn367 => (refine gd_some rfl ?_; intro R; kernel_rfl)
             · refine er_sk ?hn368 ?gn368
               case hn368 => exact rfl
               case gn368 => (refine gd_some rfl ?_; intro R; kernel_rfl)
             · refine er_q ?vn369 ?hn369 ?kn369 ?gn369 ?_
               case hn369 => exact rfl
               case vn369 => exact (fun R => .bool false)
               case kn369 => exact (fun R => rfl)
               case gn369 => exact gd_none rfl
               intro R s w' hT hs hw ha
               go_simp
             · refine er_q ?vn370 ?hn370 ?kn370 ?gn370 ?_
               case hn370 => exact rfl
               case vn370 => exact (fun R => .bool false)
               case kn370 => exact (fun R => rfl)
               case gn370 => exact gd_none rfl
               intro R s w' hT hs hw ha
               go_simp
           case end370 =>
            intro sI R G w371 hI FF hFF
            have hS := hI.same
            have hTT := hI.holds
            have hz0 := EE.out.size
            replace P4 := P4.sameE hS (fun h => h) (by simp)
            replace P5 := P5.sameE hS (fun h => h) (by simp)
            replace P6 := P6.sameE hS (fun h => h) (by simp)
            replace P7 := P7.sameE hS (fun h => h) (by simp)
            replace P9 := P9.sameE hS (fun h => h) (by simp)
            replace PL := PL.sameE hS (fun h => h) (by simp)
            replace EE := hide (show Ext _ _ from hTT)
            clear hS hz0 hTT hI P4_lt P5_lt P6_lt P7_lt P9_lt PL_lt
            dsimp only at hFF
            subst hFF
            go_wp2_with fail
            go_roundw
            case rel => exact ⟨k + 1, by omega, by go_num, hide (HE.out.trans EE.out)⟩
            case measure => simp [intOf]; omega
         · skip
           have kn := kn rfl
           obtain rfl : vb = false := by simpa using kn
           have P4_lt := P4.lt
           have P5_lt := P5.lt
           have P6_lt := P6.lt
           have P7_lt := P7.lt
           have P9_lt := P9.lt
           have PL_lt := PL.lt
           refine wp_evA [.q, .q, .sk, .sk, .sk, .sk, .sk, .sk, .q, .q, .q, .q, .q, .q, .q, .q, .q, .q, .q, .q, .q, .q, .q, .q] [0, 0, 0, 0, 0, 0, 0, 0, 0, 0, 0, 0, 0, 0, 0, 0, 0, 0, 0, 0, 0, 0, 0, 0] (fun R => [.bool false, .bool false, undef, undef, undef, undef, undef, undef, .bool false, .agg C0, .slice (some ⟨gl, 0, none⟩) 5 5, .int .i64 (k : Int), .pointer (some ⟨gl, k10, none⟩), .agg S, .bool true, .bool true, .agg C1, .slice (some ⟨gl, 0, none⟩) 5 5, .int .i64 (k : Int), .pointer (some ⟨gl, k10, none⟩), .agg S, .bool false, .bool false, .bool false]) (fun _ => (.cells #[] 0 (0, 0))) (fun R _ => (.cells #[] 0 (0, 0))) (fun _ => 0) (XE wr) (fun _ => False) _ (fun R G => { tmps := #[.slice x len cap, undef, u2, .pointer (some ⟨b, 0, none⟩), .pointer (some ⟨g4, 0, none⟩), .pointer (some ⟨g5, 0, none⟩), .pointer (some ⟨g6, 0, none⟩), .pointer (some ⟨g7, 0, none⟩), .bool false, .pointer (some ⟨g9, 0, none⟩), .bool false, .slice (some ⟨gl, 0, none⟩) 5 5, .int .i64 (k : Int), undef, undef, undef, undef, undef, undef, .slice x len cap, .pointer (some ⟨b, 0, none⟩), .pointer (some ⟨b, 0, none⟩), .agg C0, .pointer (some ⟨b, 0, none⟩), .agg C1, .pointer (some ⟨b, 0, none⟩), .agg C2, .tuple #[.agg M, .bool false], .agg C0, .agg C1, .tuple #[.agg M, .bool false], .agg M, .bool false, .tuple #[.agg M, .bool false], .agg C1, .agg C0, .tuple #[.agg M, .bool false], .agg M, .bool false, .pointer (some ⟨b, 0, none⟩), .agg Nx, .pointer (some ⟨g4, 1, none⟩), .agg L0, .pointer (some ⟨g5, 11, none⟩), .agg H1, .pointer (some ⟨g6, 1, none⟩), .agg L2, .agg C0, .agg Sx, .slice (some ⟨gl, 0, none⟩) 5 5, .int .i64 (k : Int), .slice (some ⟨gl, 0, none⟩) 5 5, .int .i64 5, .bool true, u54, u55, .bool false, .bool false, undef, undef, undef, undef, undef, undef, .bool false, .agg C0, .slice (some ⟨gl, 0, none⟩) 5 5, .int .i64 (k : Int), .pointer (some ⟨gl, k10, none⟩), .agg S, .bool true, .bool true, .agg C1, .slice (some ⟨gl, 0, none⟩) 5 5, .int .i64 (k : Int), .pointer (some ⟨gl, k10, none⟩), .agg S, .bool false, .bool false, .bool false, undef, undef, undef, undef, undef, undef, undef, undef, undef, undef, undef, undef, undef, undef, undef, undef, undef, undef, undef, undef, undef, undef, undef, undef, undef, undef, undef, undef, undef, undef, undef, undef, undef, undef, undef, undef, undef, undef, undef, undef, undef, undef, undef, undef, undef, undef, undef, undef, undef, undef, undef, undef, undef], defers := [] }) (by intro R G; kernel_rfl) (fun _ => rfl) (by kernel_rfl) (by kernel_rfl) (by kernel_rfl) (by kernel_rfl) rfl (fun _ => rfl) (fun _ h => h.elim) (fun _ _ h => h) (by simp) (by simp) (fun R R' => ⟨fun _ => rfl, fun _ => rfl, fun _ => rfl, fun _ => rfl, fun _ => rfl, fun _ => rfl, fun _ => rfl, fun _ => rfl, fun _ => rfl, fun _ => rfl, fun _ => rfl, fun _ => rfl, fun _ => rfl, fun _ => rfl, fun _ => rfl, fun _ => rfl, fun _ => rfl, fun _ => rfl, fun _ => rfl, fun _ => rfl, fun _ => rfl, fun _ => rfl, fun _ => rfl, fun _ => rfl, trivial⟩) (fun _ _ _ _ => rfl) xe_below (EE.out.trans (ext_drew _)) ?ops670 ?end670
           case ops670 =>
             refine ⟨?_, ?_, ?_, ?_, ?_, ?_, ?_, ?_, ?_, ?_, ?_, ?_, ?_, ?_, ?_, ?_, ?_, ?_, ?_, ?_, ?_, ?_, ?_, ?_, trivial⟩
             · refine er_q ?vn647 ?hn647 ?kn647 ?gn647 ?_
               case hn647 => exact rfl
               case vn647 => exact (fun R => .bool false)
               case kn647 => exact (fun R => rfl)
               case gn647 => exact gd_none rfl
               intro R s w' hT hs hw ha
               go_simp
             · refine er_q ?vn648 ?hn648 ?kn648 ?gn648 ?_
               case hn648 => exact rfl
               case vn648 => exact (fun R => .bool false)
               case kn648 => exact (fun R => rfl)
               case gn648 => exact gd_none rfl
               intro R s w' hT hs hw ha
               go_simp
             · refine er_sk ?hn649 ?gn649
               case hn649 => exact rfl
               case gn649 => (refine gd_some rfl ?_; intro R; kernel_rfl)
             · refine er_sk ?hn650 ?gn650
               case hn650 => exact rfl
               case gn650 => (refine gd_some rfl ?_; intro R; kernel_rfl)
             · refine er_sk ?hn651 ?gn651
               case hn651 => exact rfl
               case gn651 => (refine gd_some rfl ?_; intro R; kernel_rfl)
             · refine er_sk ?hn652 ?gn652
               case hn652 => exact rfl
               case gn652 => (refine gd_some rfl ?_; intro R; kernel_rfl)
             · refine er_sk ?hn653 ?gn653
               case hn653 => exact rfl
               case gn653 => (refine gd_some rfl ?_; intro R; kernel_rfl)
             · refine er_sk ?hn654 ?gn654
               case hn654 => exact rfl
               case gn654 => (refine gd_some rfl ?_; intro R; kernel_rfl)
             · refine er_q ?vn655 ?hn655 ?kn655 ?gn655 ?_
               case hn655 => exact rfl
               case vn655 => exact (fun R => .bool false)
               case kn655 => exact (fun R => rfl)
               case gn655 => exact gd_none rfl
               intro R s w' hT hs hw ha
               go_simp
             · refine er_q ?vn656 ?hn656 ?kn656 ?gn656 ?_
               case hn656 => exact rfl
               case vn656 => exact (fun R => .agg C0)
               case kn656 => exact (fun R => rfl)
               case gn656 => exact gd_none rfl
               intro R s w' hT hs hw ha
               have L := ld_all (P4.sameE hw (fun h => h) (by simp)) uCone rfl iCone sC0
               refine q_load rfl ?_ L
               kernel_rfl
             · refine er_q ?vn657 ?hn657 ?kn657 ?gn657 ?_
               case hn657 => exact rfl
               case vn657 => exact (fun R => .slice (some ⟨gl, 0, none⟩) 5 5)
               case kn657 => exact (fun R => rfl)
               case gn657 => exact gd_none rfl
               intro R s w' hT hs hw ha
               go_simp
             · refine er_q ?vn658 ?hn658 ?kn658 ?gn658 ?_
               case hn658 => exact rfl
               case vn658 => exact (fun R => .int .i64 (k : Int))
               case kn658 => exact (fun R => rfl)
               case gn658 => exact gd_none rfl
               intro R s w' hT hs hw ha
               go_simp
             · refine er_q ?vn659 ?hn659 ?kn659 ?gn659 ?_
               case hn659 => exact rfl
               case vn659 => exact (fun R => .pointer (some ⟨gl, k10, none⟩))
               case kn659 => exact (fun R => rfl)
               case gn659 => exact gd_none rfl
               intro R s w' hT hs hw ha
               refine q_idx rfl ?_ ?_ (ix.out w')
               · kernel_rfl
               · kernel_rfl
             · refine er_q ?vn660 ?hn660 ?kn660 ?gn660 ?_
               case hn660 => exact rfl
               case vn660 => exact (fun R => .agg S)
               case kn660 => exact (fun R => rfl)
               case gn660 => exact gd_none rfl
               intro R s w' hT hs hw ha
               have L := run_load_part (PL.sameE hw (fun h => h) (by simp)) _ _ uRat rfl k10 10 iRat (by rw [sLR]; first | decide | omega) _ (eS)
               refine q_load rfl ?_ L
               kernel_rfl
             · refine er_q ?vn661 ?hn661 ?kn661 ?gn661 ?_
               case hn661 => exact rfl
               case vn661 => exact (fun R => .bool true)
               case kn661 => exact (fun R => rfl)
               case gn661 => exact gd_none rfl
               intro R s w' hT hs hw ha
               go_simp
               exact ka.out w'
             · refine er_q ?vn662 ?hn662 ?kn662 ?gn662 ?_
               case hn662 => exact rfl
               case vn662 => exact (fun R => .bool true)
               case kn662 => exact (fun R => rfl)
               case gn662 => exact gd_none rfl
               intro R s w' hT hs hw ha
               go_simp
             · refine er_q ?vn663 ?hn663 ?kn663 ?gn663 ?_
               case hn663 => exact rfl
               case vn663 => exact (fun R => .agg C1)
               case kn663 => exact (fun R => rfl)
               case gn663 => (refine gd_some rfl ?_; intro R; kernel_rfl)
               intro R s w' hT hs hw ha
               have L := ld_all (P5.sameE hw (fun h => h) (by simp)) uCone rfl iCone sC1
               refine q_load rfl ?_ L
               kernel_rfl
             · refine er_q ?vn664 ?hn664 ?kn664 ?gn664 ?_
               case hn664 => exact rfl
               case vn664 => exact (fun R => .slice (some ⟨gl, 0, none⟩) 5 5)
               case kn664 => exact (fun R => rfl)
               case gn664 => (refine gd_some rfl ?_; intro R; kernel_rfl)
               intro R s w' hT hs hw ha
               go_simp
             · refine er_q ?vn665 ?hn665 ?kn665 ?gn665 ?_
               case hn665 => exact rfl
               case vn665 => exact (fun R => .int .i64 (k : Int))
               case kn665 => exact (fun R => rfl)
               case gn665 => (refine gd_some rfl ?_; intro R; kernel_rfl)
               intro R s w' hT hs hw ha
               go_simp
             · refine er_q ?vn666 ?hn666 ?kn666 ?gn666 ?_
               case hn666 => exact rfl
               case vn666 => exact (fun R => .pointer (some ⟨gl, k10, none⟩))
               case kn666 => exact (fun R => rfl)
               case gn666 => (refine gd_some rfl ?_; intro R; kernel_rfl)
               intro R s w' hT hs hw ha
               refine q_idx rfl ?_ ?_ (ix.out w')
               · kernel_rfl
               · kernel_rfl
             · refine er_q ?vn667 ?hn667 ?kn667 ?gn667 ?_
               case hn667 => exact rfl
               case vn667 => exact (fun R => .agg S)
               case kn667 => exact (fun R => rfl)
               case gn667 => (refine gd_some rfl ?_; intro R; kernel_rfl)
               intro R s w' hT hs hw ha
               have L := run_load_part (PL.sameE hw (fun h => h) (by simp)) _ _ uRat rfl k10 10 iRat (by rw [sLR]; first | decide | omega) _ (eS)
               refine q_load rfl ?_ L
               kernel_rfl
             · refine er_q ?vn668 ?hn668 ?kn668 ?gn668 ?_
               case hn668 => exact rfl
               case vn668 => exact (fun R => .bool false)
               case kn668 => exact (fun R => rfl)
               case gn668 => (refine gd_some rfl ?_; intro R; kernel_rfl)
               intro R s w' hT hs hw ha
               go_simp
               exact kb.out w'
             · refine er_q ?vn669 ?hn669 ?kn669 ?gn669 ?_
               case hn669 => exact rfl
               case vn669 => exact (fun R => .bool false)
               case kn669 => exact (fun R => rfl)
               case gn669 => exact gd_none rfl
               intro R s w' hT hs hw ha
               go_simp
             · refine er_q ?vn670 ?hn670 ?kn670 ?gn670 ?_
               case hn670 => exact rfl
               case vn670 => exact (fun R => .bool false)
               case kn670 => exact (fun R => rfl)
               case gn670 => exact gd_none rfl
               intro R s w' hT hs hw ha
               go_simp
           case end670 =>
            intro sI R G w671 hI FF hFF
            have hS := hI.same
            have hTT := hI.holds
            have hz0 := EE.out.size
            replace P4 := P4.sameE hS (fun h => h) (by simp)
            replace P5 := P5.sameE hS (fun h => h) (by simp)
            replace P6 := P6.sameE hS (fun h => h) (by simp)
            replace P7 := P7.sameE hS (fun h => h) (by simp)
            replace P9 := P9.sameE hS (fun h => h) (by simp)
            replace PL := PL.sameE hS (fun h => h) (by simp)
            replace EE := hide (show Ext _ _ from hTT)
            clear hS hz0 hTT hI P4_lt P5_lt P6_lt P7_lt P9_lt PL_lt
            dsimp only at hFF
            subst hFF
            go_wp2_with fail
            go_roundw
            case rel => exact ⟨k + 1, by omega, by go_num, hide (HE.out.trans EE.out)⟩
            case measure => simp [intOf]; omega
         · skip
           have kn := kn rfl
           have P4_lt := P4.lt
           have P5_lt := P5.lt
           have P6_lt := P6.lt
           have P7_lt := P7.lt
           have P9_lt := P9.lt
           have PL_lt := PL.lt
           refine wp_evA [.q, .q, .sk, .sk, .sk, .sk, .sk, .sk, .q, .q, .q, .q, .q, .q, .q, .q, .sk, .sk, .sk, .sk, .sk, .sk, .q, .q] [0, 0, 0, 0, 0, 0, 0, 0, 0, 0, 0, 0, 0, 0, 0, 0, 0, 0, 0, 0, 0, 0, 0, 0] (fun R => [.bool false, .bool false, undef, undef, undef, undef, undef, undef, .bool false, .agg C0, .slice (some ⟨gl, 0, none⟩) 5 5, .int .i64 (k : Int), .pointer (some ⟨gl, k10, none⟩), .agg S, .bool false, .bool false, undef, undef, undef, undef, undef, undef, .bool false, .bool false]) (fun _ => (.cells #[] 0 (0, 0))) (fun R _ => (.cells #[] 0 (0, 0))) (fun _ => 0) (XE wr) (fun _ => False) _ (fun R G => { tmps := #[.slice x len cap, undef, u2, .pointer (some ⟨b, 0, none⟩), .pointer (some ⟨g4, 0, none⟩), .pointer (some ⟨g5, 0, none⟩), .pointer (some ⟨g6, 0, none⟩), .pointer (some ⟨g7, 0, none⟩), .bool false, .pointer (some ⟨g9, 0, none⟩), .bool false, .slice (some ⟨gl, 0, none⟩) 5 5, .int .i64 (k : Int), undef, undef, undef, undef, undef, undef, .slice x len cap, .pointer (some ⟨b, 0, none⟩), .pointer (some ⟨b, 0, none⟩), .agg C0, .pointer (some ⟨b, 0, none⟩), .agg C1, .pointer (some ⟨b, 0, none⟩), .agg C2, .tuple #[.agg M, .bool false], .agg C0, .agg C1, .tuple #[.agg M, .bool false], .agg M, .bool false, .tuple #[.agg M, .bool false], .agg C1, .agg C0, .tuple #[.agg M, .bool false], .agg M, .bool false, .pointer (some ⟨b, 0, none⟩), .agg Nx, .pointer (some ⟨g4, 1, none⟩), .agg L0, .pointer (some ⟨g5, 11, none⟩), .agg H1, .pointer (some ⟨g6, 1, none⟩), .agg L2, .agg C0, .agg Sx, .slice (some ⟨gl, 0, none⟩) 5 5, .int .i64 (k : Int), .slice (some ⟨gl, 0, none⟩) 5 5, .int .i64 5, .bool true, u54, u55, .bool false, .bool false, undef, undef, undef, undef, undef, undef, .bool false, .agg C0, .slice (some ⟨gl, 0, none⟩) 5 5, .int .i64 (k : Int), .pointer (some ⟨gl, k10, none⟩), .agg S, .bool false, .bool false, undef, undef, undef, undef, undef, undef, .bool false, .bool false, undef, undef, undef, undef, undef, undef, undef, undef, undef, undef, undef, undef, undef, undef, undef, undef, undef, undef, undef, undef, undef, undef, undef, undef, undef, undef, undef, undef, undef, undef, undef, undef, undef, undef, undef, undef, undef, undef, undef, undef, undef, undef, undef, undef, undef, undef, undef, undef, undef, undef, undef, undef, undef], defers := [] }) (by intro R G; kernel_rfl) (fun _ => rfl) (by kernel_rfl) (by kernel_rfl) (by kernel_rfl) (by kernel_rfl) rfl (fun _ => rfl) (fun _ h => h.elim) (fun _ _ h => h) (by simp) (by simp) (fun R R' => ⟨fun _ => rfl, fun _ => rfl, fun _ => rfl, fun _ => rfl, fun _ => rfl, fun _ => rfl, fun _ => rfl, fun _ => rfl, fun _ => rfl, fun _ => rfl, fun _ => rfl, fun _ => rfl, fun _ => rfl, fun _ => rfl, fun _ => rfl, fun _ => rfl, fun _ => rfl, fun _ => rfl, fun _ => rfl, fun _ => rfl, fun _ => rfl, fun _ => rfl, fun _ => rfl, fun _ => rfl, trivial⟩) (fun _ _ _ _ => rfl) xe_below (EE.out.trans (ext_drew _)) ?ops970 ?end970
           case ops970 =>
             refine ⟨?_, ?_, ?_, ?_, ?_, ?_, ?_, ?_, ?_, ?_, ?_, ?_, ?_, ?_, ?_, ?_, ?_, ?_, ?_, ?_, ?_, ?_, ?_, ?_, trivial⟩
             · refine er_q ?vn947 ?hn947 ?kn947 ?gn947 ?_
               case hn947 => exact rfl
               case vn947 => exact (fun R => .bool false)
               case kn947 => exact (fun R => rfl)
               case gn947 => exact gd_none rfl
               intro R s w' hT hs hw ha
               go_simp
             · refine er_q ?vn948 ?hn948 ?kn948 ?gn948 ?_
               case hn948 => exact rfl
               case vn948 => exact (fun R => .bool false)
               case kn948 => exact (fun R => rfl)
               case gn948 => exact gd_none rfl
               intro R s w' hT hs hw ha
               go_simp
             · refine er_sk ?hn949 ?gn949
               case hn949 => exact rfl
               case gn949 => (refine gd_some rfl ?_; intro R; kernel_rfl)
             · refine er_sk ?hn950 ?gn950
               case hn950 => exact rfl
               case gn950 => (refine gd_some rfl ?_; intro R; kernel_rfl)
             · refine er_sk ?hn951 ?gn951
               case hn951 => exact rfl
               case gn951 => (refine gd_some rfl ?_; intro R; kernel_rfl)
             · refine er_sk ?hn952 ?gn952
               case hn952 => exact rfl
               case gn952 => (refine gd_some rfl ?_; intro R; kernel_rfl)
             · refine er_sk ?hn953 ?gn953
               case hn953 => exact rfl
               case gn953 => (refine gd_some rfl ?_; intro R; kernel_rfl)
             · refine er_sk ?hn954 ?gn954
               case hn954 => exact rfl
               case gn954 => (refine gd_some rfl ?_; intro R; kernel_rfl)
             · refine er_q ?vn955 ?hn955 ?kn955 ?gn955 ?_
               case hn955 => exact rfl
               case vn955 => exact (fun R => .bool false)
               case kn955 => exact (fun R => rfl)
               case gn955 => exact gd_none rfl
               intro R s w' hT hs hw ha
               go_simp
             · refine er_q ?vn956 ?hn956 ?kn956 ?gn956 ?_
               case hn956 => exact rfl
               case vn956 => exact (fun R => .agg C0)
               case kn956 => exact (fun R => rfl)
               case gn956 => exact gd_none rfl
               intro R s w' hT hs hw ha
               have L := ld_all (P4.sameE hw (fun h => h) (by simp)) uCone rfl iCone sC0
               refine q_load rfl ?_ L
               kernel_rfl
             · refine er_q ?vn957 ?hn957 ?kn957 ?gn957 ?_
               case hn957 => exact rfl
               case vn957 => exact (fun R => .slice (some ⟨gl, 0, none⟩) 5 5)
               case kn957 => exact (fun R => rfl)
               case gn957 => exact gd_none rfl
               intro R s w' hT hs hw ha
               go_simp
             · refine er_q ?vn958 ?hn958 ?kn958 ?gn958 ?_
               case hn958 => exact rfl
               case vn958 => exact (fun R => .int .i64 (k : Int))
               case kn958 => exact (fun R => rfl)
               case gn958 => exact gd_none rfl
               intro R s w' hT hs hw ha
               go_simp
             · refine er_q ?vn959 ?hn959 ?kn959 ?gn959 ?_
               case hn959 => exact rfl
               case vn959 => exact (fun R => .pointer (some ⟨gl, k10, none⟩))
               case kn959 => exact (fun R => rfl)
               case gn959 => exact gd_none rfl
               intro R s w' hT hs hw ha
               refine q_idx rfl ?_ ?_ (ix.out w')
               · kernel_rfl
               · kernel_rfl
             · refine er_q ?vn960 ?hn960 ?kn960 ?gn960 ?_
               case hn960 => exact rfl
               case vn960 => exact (fun R => .agg S)
               case kn960 => exact (fun R => rfl)
               case gn960 => exact gd_none rfl
               intro R s w' hT hs hw ha
               have L := run_load_part (PL.sameE hw (fun h => h) (by simp)) _ _ uRat rfl k10 10 iRat (by rw [sLR]; first | decide | omega) _ (eS)
               refine q_load rfl ?_ L
               kernel_rfl
             · refine er_q ?vn961 ?hn961 ?kn961 ?gn961 ?_
               case hn961 => exact rfl
               case vn961 => exact (fun R => .bool false)
               case kn961 => exact (fun R => rfl)
               case gn961 => exact gd_none rfl
               intro R s w' hT hs hw ha
               go_simp
               exact ka.out w'
             · refine er_q ?vn962 ?hn962 ?kn962 ?gn962 ?_
               case hn962 => exact rfl
               case vn962 => exact (fun R => .bool false)
               case kn962 => exact (fun R => rfl)
               case gn962 => exact gd_none rfl
               intro R s w' hT hs hw ha
               go_simp
             · refine er_sk ?hn963 ?gn963
               case hn963 => exact rfl
               case gn963 => (refine gd_some rfl ?_; intro R; kernel_rfl)
             · refine er_sk ?hn964 ?gn964
               case hn964 => exact rfl
               case gn964 => (refine gd_some rfl ?_; intro R; kernel_rfl)
             · refine er_sk ?hn965 ?gn965
               case hn965 => exact rfl
               case gn965 => (refine gd_some rfl ?_; intro R; kernel_rfl)
             · refine er_sk ?hn966 ?gn966
               case hn966 => exact rfl
               case gn966 => (refine gd_some rfl ?_; intro R; kernel_rfl)
             · refine er_sk ?hn967 ?gn967
               case hn967 => exact rfl
               case gn967 => (refine gd_some rfl ?_; intro R; kernel_rfl)
             · refine er_sk ?hn968 ?gn968
               case hn968 => exact rfl
               case gn968 => (refine gd_some rfl ?_; intro R; kernel_rfl)
             · refine er_q ?vn969 ?hn969 ?kn969 ?gn969 ?_
               case hn969 => exact rfl
               case vn969 => exact (fun R => .bool false)
               case kn969 => exact (fun R => rfl)
               case gn969 => exact gd_none rfl
               intro R s w' hT hs hw ha
               go_simp
             · refine er_q ?vn970 ?hn970 ?kn970 ?gn970 ?_
               case hn970 => exact rfl
               case vn970 => exact (fun R => .bool false)
               case kn970 => exact (fun R => rfl)
               case gn970 => exact gd_none rfl
               intro R s w' hT hs hw ha
               go_simp
           case end970 =>
            intro sI R G w971 hI FF hFF
            have hS := hI.same
            have hTT := hI.holds
            have hz0 := EE.out.size
            replace P4 := P4.sameE hS (fun h => h) (by simp)
            replace P5 := P5.sameE hS (fun h => h) (by simp)
            replace P6 := P6.sameE hS (fun h => h) (by simp)
            replace P7 := P7.sameE hS (fun h => h) (by simp)
            replace P9 := P9.sameE hS (fun h => h) (by simp)
            replace PL := PL.sameE hS (fun h => h) (by simp)
            replace EE := hide (show Ext _ _ from hTT)
            clear hS hz0 hTT hI P4_lt P5_lt P6_lt P7_lt P9_lt PL_lt
            dsimp only at hFF
            subst hFF
            go_wp2_with fail
            go_roundw
            case rel => exact ⟨k + 1, by omega, by go_num, hide (HE.out.trans EE.out)⟩
            case measure => simp [intOf]; omega
       · have d0 : decide ((k : Int) < 5) = false := decide_eq_false (by omega)
         have EE := EW
         go_upto_region 11 with fail
         have P4_lt := P4.lt
         have P5_lt := P5.lt
         have P6_lt := P6.lt
         have P7_lt := P7.lt
         have P9_lt := P9.lt
         refine wp_evsA [.q, .q, .q, .q, .q, .q, .al, .st 6, .q] [0, 0, 0, 0, 0, 0, 0, 0, 0] (fun R => [.agg M, .agg C2, .tuple #[.agg Xx, .bool is], .tuple #[.agg Xx, .bool is], .agg Xx, .bool is, undef, undef, .bool is]) (fun _ => (.cells z21 42 (0, 0))) (fun R _ => (.cells Xx 42 (0, 0))) (fun _ => 0) (XE W) (fun _ => False) _ (fun R G => { tmps := #[.slice x len cap, undef, u2, .pointer (some ⟨b, 0, none⟩), .pointer (some ⟨g4, 0, none⟩), .pointer (some ⟨g5, 0, none⟩), .pointer (some ⟨g6, 0, none⟩), .pointer (some ⟨g7, 0, none⟩), .bool ok, .pointer (some ⟨g9, 0, none⟩), .bool ok, .slice (some ⟨gl, 0, none⟩) 5 5, .int .i64 (k : Int), .pointer (some ⟨G 6, 0, none⟩), .bool is, undef, undef, undef, undef, .slice x len cap, .pointer (some ⟨b, 0, none⟩), .pointer (some ⟨b, 0, none⟩), .agg C0, .pointer (some ⟨b, 0, none⟩), .agg C1, .pointer (some ⟨b, 0, none⟩), .agg C2, .tuple #[.agg M, .bool ok], .agg C0, .agg C1, .tuple #[.agg M, .bool ok], .agg M, .bool ok, .tuple #[.agg M, .bool ok], .agg C1, .agg C0, .tuple #[.agg M, .bool ok], .agg M, .bool ok, .pointer (some ⟨b, 0, none⟩), .agg Nx, .pointer (some ⟨g4, 1, none⟩), .agg L0, .pointer (some ⟨g5, 11, none⟩), .agg H1, .pointer (some ⟨g6, 1, none⟩), .agg L2, .agg C0, .agg Sx, .slice (some ⟨gl, 0, none⟩) 5 5, .int .i64 (k : Int), .slice (some ⟨gl, 0, none⟩) 5 5, .int .i64 5, .bool false, u54, u55, u56, u57, u58, u59, u60, u61, u62, u63, u64, u65, u66, u67, u68, u69, u70, u71, u72, u73, u74, u75, u76, u77, u78, u79, .tuple #[.agg Xx, .bool is], .agg M, .agg C2, .tuple #[.agg Xx, .bool is], .agg Xx, .bool is, undef, undef, undef, undef, undef, undef, undef, undef, undef, undef, undef, undef, undef, undef, undef, undef, undef, undef, undef, undef, undef, undef, undef, undef, undef, undef, undef, undef, undef, undef, undef, undef, undef, undef, undef, undef, undef, undef, undef, undef, undef, undef, undef, undef, undef, undef, undef], defers := [] }) (by intro R G; kernel_rfl) (fun _ => rfl) (by kernel_rfl) (by kernel_rfl) (by kernel_rfl) rfl (fun _ => rfl) (fun _ h => h.elim) (fun _ _ h => h) (by simp) (by simp) (fun R R' => ⟨fun _ => rfl, fun _ => rfl, fun _ => rfl, fun _ => rfl, fun _ => rfl, fun _ => rfl, fun _ => rfl, fun _ => rfl, fun _ => rfl, trivial⟩) (fun _ _ _ _ => rfl) xe_below EE.out ?ops355 ?end355
         case ops355 =>
           refine ⟨?_, ?_, ?_, ?_, ?_, ?_, ?_, ?_, ?_, trivial⟩
           · refine er_q ?vn347 ?hn347 ?kn347 ?gn347 ?_
             case hn347 => exact rfl
             case vn347 => exact (fun R => .agg M)
             case kn347 => exact (fun R => rfl)
             case gn347 => exact gd_none rfl
             intro R s w' hT hs hw ha
             have L := ld_all (P7.sameE hw (fun h => h) (by simp)) uCone rfl iCone sM
             refine q_load rfl ?_ L
             kernel_rfl
           · refine er_q ?vn348 ?hn348 ?kn348 ?gn348 ?_
             case hn348 => exact rfl
             case vn348 => exact (fun R => .agg C2)
             case kn348 => exact (fun R => rfl)
             case gn348 => exact gd_none rfl
             intro R s w' hT hs hw ha
             have L := ld_all (P6.sameE hw (fun h => h) (by simp)) uCone rfl iCone sC2
             refine q_load rfl ?_ L
             kernel_rfl
           · refine er_q ?vn349 ?hn349 ?kn349 ?gn349 ?_
             case hn349 => exact rfl
             case vn349 => exact (fun R => .tuple #[.agg Xx, .bool is])
             case kn349 => exact (fun R => rfl)
             case gn349 => exact gd_none rfl
             intro R s w' hT hs hw ha
             go_simp
             exact kX.out w'
           · refine er_q ?vn350 ?hn350 ?kn350 ?gn350 ?_
             case hn350 => exact rfl
             case vn350 => exact (fun R => .tuple #[.agg Xx, .bool is])
             case kn350 => exact (fun R => rfl)
             case gn350 => exact gd_none rfl
             intro R s w' hT hs hw ha
             go_simp
           · refine er_q ?vn351 ?hn351 ?kn351 ?gn351 ?_
             case hn351 => exact rfl
             case vn351 => exact (fun R => .agg Xx)
             case kn351 => exact (fun R => rfl)
             case gn351 => exact gd_none rfl
             intro R s w' hT hs hw ha
             go_simp
           · refine er_q ?vn352 ?hn352 ?kn352 ?gn352 ?_
             case hn352 => exact rfl
             case vn352 => exact (fun R => .bool is)
             case kn352 => exact (fun R => rfl)
             case gn352 => exact gd_none rfl
             intro R s w' hT hs hw ha
             go_simp
           · refine er_al ?zn353 ?hn353 ?kn353 ?gn353 ?_
             case zn353 => exact (.cells z21 42 (0, 0))
             case hn353 => exact rfl
             case kn353 => exact rfl
             case gn353 => exact gd_none rfl
             intro ρ w'
             go_simp
             exact ⟨rfl, rfl⟩
           · refine er_st (j := 6) (Ty := ?Tn354) (p := ?pn354) (x := ?xn354) ?fn354 ?zn354 ?vn354 ?hn354 ?on354 ?kn354 ?ln354 ?gn354 ?en354 ?_
             case hn354 => exact rfl
             case on354 => exact rfl
             case fn354 => exact (fun R => (.cells Xx 42 (0, 0)))
             case zn354 => exact (.cells z21 42 (0, 0))
             case vn354 => exact (fun R => .agg Xx)
             case kn354 => exact (fun R => rfl)
             case ln354 => exact rfl
             case gn354 => exact gd_none rfl
             case en354 =>
               intro R
               kernel_rfl
             intro R s ρ w g hT hs hp hx hg hz
             exact ⟨store_row rfl hp hx hz iCone (sX) (oX), fun w1 hF => ext_filled hT hF (Nat.le_trans EE.out.size hg)⟩
           · refine er_q ?vn355 ?hn355 ?kn355 ?gn355 ?_
             case hn355 => exact rfl
             case vn355 => exact (fun R => .bool is)
             case kn355 => exact (fun R => rfl)
             case gn355 => exact gd_none rfl
             intro R s w' hT hs hw ha
             go_simp
         case end355 =>
          intro sI R G w356 hI FF hFF
          have hS := hI.same
          have hTT := hI.holds
          have hz0 := EE.out.size
          replace P4 := P4.sameE hS (fun h => h) (by simp)
          replace P5 := P5.sameE hS (fun h => h) (by simp)
          replace P6 := P6.sameE hS (fun h => h) (by simp)
          replace P7 := P7.sameE hS (fun h => h) (by simp)
          replace P9 := P9.sameE hS (fun h => h) (by simp)
          have P13 : Blk w356 (G 6) 42 Xx := (hI.fulls 7 (List.mem_range.2 (show 7 < 9 by decide)) 6 rfl).2.2
          have hmP13 := (hI.made 6 (List.mem_range.2 (show 6 < 9 by decide)) rfl).1
          have P13_lo : W.heap.size ≤ G 6 := Nat.le_trans hz0 hmP13
          have ngP4_13 : g4 ≠ G 6 := by omega
          have ngP5_13 : g5 ≠ G 6 := by omega
          have ngP6_13 : g6 ≠ G 6 := by omega
          have ngP7_13 : g7 ≠ G 6 := by omega
          have ngP9_13 : g9 ≠ G 6 := by omega
          replace EE := hide (show Ext _ _ from hTT)
          clear hS hz0 hTT hI P4_lt P5_lt P6_lt P7_lt P9_lt
          dsimp only at hFF
          subst hFF
          generalize G 6 = g13 at *
          go_upto_region 12 with fail
          have P4_lt := P4.lt
          have P5_lt := P5.lt
          have P6_lt := P6.lt
          have P7_lt := P7.lt
          have P9_lt := P9.lt
          have P13_lt := P13.lt
          refine wp_evsA [.q, .q, .q, .q, .q, .q, .al, .st 6, .q] [0, 0, 0, 0, 0, 0, 0, 0, 0] (fun R => [.agg C1, .agg C2, .tuple #[.agg Pp, .bool hs], .tuple #[.agg Pp, .bool hs], .agg Pp, .bool hs, undef, undef, .bool hs]) (fun _ => (.cells z21 42 (0, 0))) (fun R _ => (.cells Pp 42 (0, 0))) (fun _ => 0) (XE W) (fun _ => False) _ (fun R G => { tmps := #[.slice x len cap, undef, u2, .pointer (some ⟨b, 0, none⟩), .pointer (some ⟨g4, 0, none⟩), .pointer (some ⟨g5, 0, none⟩), .pointer (some ⟨g6, 0, none⟩), .pointer (some ⟨g7, 0, none⟩), .bool ok, .pointer (some ⟨g9, 0, none⟩), .bool ok, .slice (some ⟨gl, 0, none⟩) 5 5, .int .i64 (k : Int), .pointer (some ⟨g13, 0, none⟩), .bool is, .pointer (some ⟨G 6, 0, none⟩), .bool hs, undef, undef, .slice x len cap, .pointer (some ⟨b, 0, none⟩), .pointer (some ⟨b, 0, none⟩), .agg C0, .pointer (some ⟨b, 0, none⟩), .agg C1, .pointer (some ⟨b, 0, none⟩), .agg C2, .tuple #[.agg M, .bool ok], .agg C0, .agg C1, .tuple #[.agg M, .bool ok], .agg M, .bool ok, .tuple #[.agg M, .bool ok], .agg C1, .agg C0, .tuple #[.agg M, .bool ok], .agg M, .bool ok, .pointer (some ⟨b, 0, none⟩), .agg Nx, .pointer (some ⟨g4, 1, none⟩), .agg L0, .pointer (some ⟨g5, 11, none⟩), .agg H1, .pointer (some ⟨g6, 1, none⟩), .agg L2, .agg C0, .agg Sx, .slice (some ⟨gl, 0, none⟩) 5 5, .int .i64 (k : Int), .slice (some ⟨gl, 0, none⟩) 5 5, .int .i64 5, .bool false, u54, u55, u56, u57, u58, u59, u60, u61, u62, u63, u64, u65, u66, u67, u68, u69, u70, u71, u72, u73, u74, u75, u76, u77, u78, u79, .tuple #[.agg Xx, .bool is], .agg M, .agg C2, .tuple #[.agg Xx, .bool is], .agg Xx, .bool is, .tuple #[.agg Pp, .bool hs], .agg C1, .agg C2, .tuple #[.agg Pp, .bool hs], .agg Pp, .bool hs, undef, undef, undef, undef, undef, undef, undef, undef, undef, undef, undef, undef, undef, undef, undef, undef, undef, undef, undef, undef, undef, undef, undef, undef, undef, undef, undef, undef, undef, undef, undef, undef, undef, undef, undef, undef, undef, undef, undef, undef, undef], defers := [] }) (by intro R G; kernel_rfl) (fun _ => rfl) (by kernel_rfl) (by kernel_rfl) (by kernel_rfl) rfl (fun _ => rfl) (fun _ h => h.elim) (fun _ _ h => h) (by simp) (by simp) (fun R R' => ⟨fun _ => rfl, fun _ => rfl, fun _ => rfl, fun _ => rfl, fun _ => rfl, fun _ => rfl, fun _ => rfl, fun _ => rfl, fun _ => rfl, trivial⟩) (fun _ _ _ _ => rfl) xe_below EE.out ?ops365 ?end365
          case ops365 =>
            refine ⟨?_, ?_, ?_, ?_, ?_, ?_, ?_, ?_, ?_, trivial⟩
            · refine er_q ?vn357 ?hn357 ?kn357 ?gn357 ?_
              case hn357 => exact rfl
              case vn357 => exact (fun R => .agg C1)
              case kn357 => exact (fun R => rfl)
              case gn357 => exact gd_none rfl
              intro R s w' hT hs hw ha
              have L := ld_all (P5.sameE hw (fun h => h) (by simp)) uCone rfl iCone sC1
              refine q_load rfl ?_ L
              kernel_rfl
            · refine er_q ?vn358 ?hn358 ?kn358 ?gn358 ?_
              case hn358 => exact rfl
              case vn358 => exact (fun R => .agg C2)
              case kn358 => exact (fun R => rfl)
              case gn358 => exact gd_none rfl
              intro R s w' hT hs hw ha
              have L := ld_all (P6.sameE hw (fun h => h) (by simp)) uCone rfl iCone sC2
              refine q_load rfl ?_ L
              kernel_rfl
            · refine er_q ?vn359 ?hn359 ?kn359 ?gn359 ?_
              case hn359 => exact rfl
              case vn359 => exact (fun R => .tuple #[.agg Pp, .bool hs])
              case kn359 => exact (fun R => rfl)
              case gn359 => exact gd_none rfl
              intro R s w' hT hs hw ha
              go_simp
              exact kP.out w'
            · refine er_q ?vn360 ?hn360 ?kn360 ?gn360 ?_
              case hn360 => exact rfl
              case vn360 => exact (fun R => .tuple #[.agg Pp, .bool hs])
              case kn360 => exact (fun R => rfl)
              case gn360 => exact gd_none rfl
              intro R s w' hT hs hw ha
              go_simp
            · refine er_q ?vn361 ?hn361 ?kn361 ?gn361 ?_
              case hn361 => exact rfl
              case vn361 => exact (fun R => .agg Pp)
              case kn361 => exact (fun R => rfl)
              case gn361 => exact gd_none rfl
              intro R s w' hT hs hw ha
              go_simp
            · refine er_q ?vn362 ?hn362 ?kn362 ?gn362 ?_
              case hn362 => exact rfl
              case vn362 => exact (fun R => .bool hs)
              case kn362 => exact (fun R => rfl)
              case gn362 => exact gd_none rfl
              intro R s w' hT hs hw ha
              go_simp
            · refine er_al ?zn363 ?hn363 ?kn363 ?gn363 ?_
              case zn363 => exact (.cells z21 42 (0, 0))
              case hn363 => exact rfl
              case kn363 => exact rfl
              case gn363 => exact gd_none rfl
              intro ρ w'
              go_simp
              exact ⟨rfl, rfl⟩
            · refine er_st (j := 6) (Ty := ?Tn364) (p := ?pn364) (x := ?xn364) ?fn364 ?zn364 ?vn364 ?hn364 ?on364 ?kn364 ?ln364 ?gn364 ?en364 ?_
              case hn364 => exact rfl
              case on364 => exact rfl
              case fn364 => exact (fun R => (.cells Pp 42 (0, 0)))
              case zn364 => exact (.cells z21 42 (0, 0))
              case vn364 => exact (fun R => .agg Pp)
              case kn364 => exact (fun R => rfl)
              case ln364 => exact rfl
              case gn364 => exact gd_none rfl
              case en364 =>
                intro R
                kernel_rfl
              intro R s ρ w g hT hs hp hx hg hz
              exact ⟨store_row rfl hp hx hz iCone (sP) (oP), fun w1 hF => ext_filled hT hF (Nat.le_trans EE.out.size hg)⟩
            · refine er_q ?vn365 ?hn365 ?kn365 ?gn365 ?_
              case hn365 => exact rfl
              case vn365 => exact (fun R => .bool hs)
              case kn365 => exact (fun R => rfl)
              case gn365 => exact gd_none rfl
              intro R s w' hT hs hw ha
              go_simp
          case end365 =>
           intro sI R G w366 hI FF hFF
           have hS := hI.same
           have hTT := hI.holds
           have hz0 := EE.out.size
           replace P4 := P4.sameE hS (fun h => h) (by simp)
           replace P5 := P5.sameE hS (fun h => h) (by simp)
           replace P6 := P6.sameE hS (fun h => h) (by simp)
           replace P7 := P7.sameE hS (fun h => h) (by simp)
           replace P9 := P9.sameE hS (fun h => h) (by simp)
           replace P13 := P13.sameE hS (fun h => h) (by simp)
           have P15 : Blk w366 (G 6) 42 Pp := (hI.fulls 7 (List.mem_range.2 (show 7 < 9 by decide)) 6 rfl).2.2
           have hmP15 := (hI.made 6 (List.mem_range.2 (show 6 < 9 by decide)) rfl).1
           have P15_lo : W.heap.size ≤ G 6 := Nat.le_trans hz0 hmP15
           have ngP4_15 : g4 ≠ G 6 := by omega
           have ngP5_15 : g5 ≠ G 6 := by omega
           have ngP6_15 : g6 ≠ G 6 := by omega
           have ngP7_15 : g7 ≠ G 6 := by omega
           have ngP9_15 : g9 ≠ G 6 := by omega
           have ngP13_15 : g13 ≠ G 6 := by omega
           replace EE := hide (show Ext _ _ from hTT)
           clear hS hz0 hTT hI P4_lt P5_lt P6_lt P7_lt P9_lt P13_lt
           dsimp only at hFF
           subst hFF
           generalize G 6 = g15 at *
           go_upto_region 13 with fail
           have P4_lt := P4.lt
           have P5_lt := P5.lt
           have P6_lt := P6.lt
           have P7_lt := P7.lt
           have P9_lt := P9.lt
           have P13_lt := P13.lt
           have P15_lt := P15.lt
           refine wp_evsA [.q, .q, .q, .q, .q, .q, .al, .st 6, .q] [0, 0, 0, 0, 0, 0, 0, 0, 0] (fun R => [.agg C0, .agg Pp, .tuple #[.agg Xx, .bool is], .tuple #[.agg Xx, .bool is], .agg Xx, .bool is, undef, undef, .bool is]) (fun _ => (.cells z21 42 (0, 0))) (fun R _ => (.cells Xx 42 (0, 0))) (fun _ => 0) (XE W) (fun _ => False) _ (fun R G => { tmps := #[.slice x len cap, undef, u2, .pointer (some ⟨b, 0, none⟩), .pointer (some ⟨g4, 0, none⟩), .pointer (some ⟨g5, 0, none⟩), .pointer (some ⟨g6, 0, none⟩), .pointer (some ⟨g7, 0, none⟩), .bool ok, .pointer (some ⟨g9, 0, none⟩), .bool ok, .slice (some ⟨gl, 0, none⟩) 5 5, .int .i64 (k : Int), .pointer (some ⟨g13, 0, none⟩), .bool is, .pointer (some ⟨g15, 0, none⟩), .bool hs, .pointer (some ⟨G 6, 0, none⟩), .bool is, .slice x len cap, .pointer (some ⟨b, 0, none⟩), .pointer (some ⟨b, 0, none⟩), .agg C0, .pointer (some ⟨b, 0, none⟩), .agg C1, .pointer (some ⟨b, 0, none⟩), .agg C2, .tuple #[.agg M, .bool ok], .agg C0, .agg C1, .tuple #[.agg M, .bool ok], .agg M, .bool ok, .tuple #[.agg M, .bool ok], .agg C1, .agg C0, .tuple #[.agg M, .bool ok], .agg M, .bool ok, .pointer (some ⟨b, 0, none⟩), .agg Nx, .pointer (some ⟨g4, 1, none⟩), .agg L0, .pointer (some ⟨g5, 11, none⟩), .agg H1, .pointer (some ⟨g6, 1, none⟩), .agg L2, .agg C0, .agg Sx, .slice (some ⟨gl, 0, none⟩) 5 5, .int .i64 (k : Int), .slice (some ⟨gl, 0, none⟩) 5 5, .int .i64 5, .bool false, u54, u55, u56, u57, u58, u59, u60, u61, u62, u63, u64, u65, u66, u67, u68, u69, u70, u71, u72, u73, u74, u75, u76, u77, u78, u79, .tuple #[.agg Xx, .bool is], .agg M, .agg C2, .tuple #[.agg Xx, .bool is], .agg Xx, .bool is, .tuple #[.agg Pp, .bool hs], .agg C1, .agg C2, .tuple #[.agg Pp, .bool hs], .agg Pp, .bool hs, .tuple #[.agg Xx, .bool is], .agg C0, .agg Pp, .tuple #[.agg Xx, .bool is], .agg Xx, .bool is, undef, undef, undef, undef, undef, undef, undef, undef, undef, undef, undef, undef, undef, undef, undef, undef, undef, undef, undef, undef, undef, undef, undef, undef, undef, undef, undef, undef, undef, undef, undef, undef, undef, undef, undef], defers := [] }) (by intro R G; kernel_rfl) (fun _ => rfl) (by kernel_rfl) (by kernel_rfl) (by kernel_rfl) rfl (fun _ => rfl) (fun _ h => h.elim) (fun _ _ h => h) (by simp) (by simp) (fun R R' => ⟨fun _ => rfl, fun _ => rfl, fun _ => rfl, fun _ => rfl, fun _ => rfl, fun _ => rfl, fun _ => rfl, fun _ => rfl, fun _ => rfl, trivial⟩) (fun _ _ _ _ => rfl) xe_below EE.out ?ops375 ?end375
           case ops375 =>
             refine ⟨?_, ?_, ?_, ?_, ?_, ?_, ?_, ?_, ?_, trivial⟩
             · refine er_q ?vn367 ?hn367 ?kn367 ?gn367 ?_
               case hn367 => exact rfl
               case vn367 => exact (fun R => .agg C0)
               case kn367 => exact (fun R => rfl)
               case gn367 => exact gd_none rfl
               intro R s w' hT hs hw ha
               have L := ld_all (P4.sameE hw (fun h => h) (by simp)) uCone rfl iCone sC0
               refine q_load rfl ?_ L
               kernel_rfl
             · refine er_q ?vn368 ?hn368 ?kn368 ?gn368 ?_
               case hn368 => exact rfl
               case vn368 => exact (fun R => .agg Pp)
               case kn368 => exact (fun R => rfl)
               case gn368 => exact gd_none rfl
               intro R s w' hT hs hw ha
               have L := ld_all (P15.sameE hw (fun h => h) (by simp)) uCone rfl iCone sP
               refine q_load rfl ?_ L
               kernel_rfl
             · refine er_q ?vn369 ?hn369 ?kn369 ?gn369 ?_
               case hn369 => exact rfl
               case vn369 => exact (fun R => .tuple #[.agg Xx, .bool is])
               case kn369 => exact (fun R => rfl)
               case gn369 => exact gd_none rfl
               intro R s w' hT hs hw ha
               go_simp
               exact kY.out w'
             · refine er_q ?vn370 ?hn370 ?kn370 ?gn370 ?_
               case hn370 => exact rfl
               case vn370 => exact (fun R => .tuple #[.agg Xx, .bool is])
               case kn370 => exact (fun R => rfl)
               case gn370 => exact gd_none rfl
               intro R s w' hT hs hw ha
               go_simp
             · refine er_q ?vn371 ?hn371 ?kn371 ?gn371 ?_
               case hn371 => exact rfl
               case vn371 => exact (fun R => .agg Xx)
               case kn371 => exact (fun R => rfl)
               case gn371 => exact gd_none rfl
               intro R s w' hT hs hw ha
               go_simp
             · refine er_q ?vn372 ?hn372 ?kn372 ?gn372 ?_
               case hn372 => exact rfl
               case vn372 => exact (fun R => .bool is)
               case kn372 => exact (fun R => rfl)
               case gn372 => exact gd_none rfl
               intro R s w' hT hs hw ha
               go_simp
             · refine er_al ?zn373 ?hn373 ?kn373 ?gn373 ?_
               case zn373 => exact (.cells z21 42 (0, 0))
               case hn373 => exact rfl
               case kn373 => exact rfl
               case gn373 => exact gd_none rfl
               intro ρ w'
               go_simp
               exact ⟨rfl, rfl⟩
             · refine er_st (j := 6) (Ty := ?Tn374) (p := ?pn374) (x := ?xn374) ?fn374 ?zn374 ?vn374 ?hn374 ?on374 ?kn374 ?ln374 ?gn374 ?en374 ?_
               case hn374 => exact rfl
               case on374 => exact rfl
               case fn374 => exact (fun R => (.cells Xx 42 (0, 0)))
               case zn374 => exact (.cells z21 42 (0, 0))
               case vn374 => exact (fun R => .agg Xx)
               case kn374 => exact (fun R => rfl)
               case ln374 => exact rfl
               case gn374 => exact gd_none rfl
               case en374 =>
                 intro R
                 kernel_rfl
               intro R s ρ w g hT hs hp hx hg hz
               exact ⟨store_row rfl hp hx hz iCone (sX) (oX), fun w1 hF => ext_filled hT hF (Nat.le_trans EE.out.size hg)⟩
             · refine er_q ?vn375 ?hn375 ?kn375 ?gn375 ?_
               case hn375 => exact rfl
               case vn375 => exact (fun R => .bool is)
               case kn375 => exact (fun R => rfl)
               case gn375 => exact gd_none rfl
               intro R s w' hT hs hw ha
               go_simp
           case end375 =>
            intro sI R G w376 hI FF hFF
            have hS := hI.same
            have hTT := hI.holds
            have hz0 := EE.out.size
            replace P4 := P4.sameE hS (fun h => h) (by simp)
            replace P5 := P5.sameE hS (fun h => h) (by simp)
            replace P6 := P6.sameE hS (fun h => h) (by simp)
            replace P7 := P7.sameE hS (fun h => h) (by simp)
            replace P9 := P9.sameE hS (fun h => h) (by simp)
            replace P13 := P13.sameE hS (fun h => h) (by simp)
            replace P15 := P15.sameE hS (fun h => h) (by simp)
            have P17 : Blk w376 (G 6) 42 Xx := (hI.fulls 7 (List.mem_range.2 (show 7 < 9 by decide)) 6 rfl).2.2
            have hmP17 := (hI.made 6 (List.mem_range.2 (show 6 < 9 by decide)) rfl).1
            have P17_lo : W.heap.size ≤ G 6 := Nat.le_trans hz0 hmP17
            have ngP4_17 : g4 ≠ G 6 := by omega
            have ngP5_17 : g5 ≠ G 6 := by omega
            have ngP6_17 : g6 ≠ G 6 := by omega
            have ngP7_17 : g7 ≠ G 6 := by omega
            have ngP9_17 : g9 ≠ G 6 := by omega
            have ngP13_17 : g13 ≠ G 6 := by omega
            have ngP15_17 : g15 ≠ G 6 := by omega
            replace EE := hide (show Ext _ _ from hTT)
            clear hS hz0 hTT hI P4_lt P5_lt P6_lt P7_lt P9_lt P13_lt P15_lt
            dsimp only at hFF
            subst hFF
            generalize G 6 = g17 at *
            go_upto_region 14 with fail
            rcases Bool.eq_false_or_eq_true ok with rfl | rfl <;> rcases Bool.eq_false_or_eq_true hs with rfl | rfl <;> rcases Bool.eq_false_or_eq_true is with rfl | rfl
            · skip
              have P4_lt := P4.lt
              have P5_lt := P5.lt
              have P6_lt := P6.lt
              have P7_lt := P7.lt
              have P9_lt := P9.lt
              have P13_lt := P13.lt
              have P15_lt := P15.lt
              have P17_lt := P17.lt
              refine wp_evsA [.q, .q, .q, .q, .q, .q, .q, .q, .q, .q, .q, .q, .q, .q, .q, .q, .q, .q, .q, .q, .q, .q, .q, .q, .q, .q, .q, .q, .q, .q, .q, .q, .q, .q, .q, .q] [0, 0, 0, 0, 0, 0, 0, 0, 0, 0, 0, 0, 0, 0, 0, 0, 0, 0, 0, 0, 0, 0, 0, 0, 0, 0, 0, 0, 0, 0, 0, 0, 0, 0, 0, 0] (fun R => [.bool true, .bool true, .agg M, .agg M, .bool true, .bool true, .bool true, .bool true, .bool true, .bool true, .bool true, .bool true, .bool true, .bool true, .bool true, .bool true, .bool true, .bool true, .bool true, .bool true, .bool true, .bool true, .bool true, .bool true, .bool false, .bool false, .bool true, .bool false, .bool false, .bool false, .agg Xx, .agg Xx, .bool true, .bool true, .bool true, .bool true]) (fun _ => (.cells #[] 0 (0, 0))) (fun R _ => (.cells #[] 0 (0, 0))) (fun _ => 0) (XE W) (fun _ => False) _ (fun R G => { tmps := #[.slice x len cap, undef, .bool true, .pointer (some ⟨b, 0, none⟩), .pointer (some ⟨g4, 0, none⟩), .pointer (some ⟨g5, 0, none⟩), .pointer (some ⟨g6, 0, none⟩), .pointer (some ⟨g7, 0, none⟩), .bool true, .pointer (some ⟨g9, 0, none⟩), .bool true, .slice (some ⟨gl, 0, none⟩) 5 5, .int .i64 (k : Int), .pointer (some ⟨g13, 0, none⟩), .bool true, .pointer (some ⟨g15, 0, none⟩), .bool true, .pointer (some ⟨g17, 0, none⟩), .bool true, .slice x len cap, .pointer (some ⟨b, 0, none⟩), .pointer (some ⟨b, 0, none⟩), .agg C0, .pointer (some ⟨b, 0, none⟩), .agg C1, .pointer (some ⟨b, 0, none⟩), .agg C2, .tuple #[.agg M, .bool true], .agg C0, .agg C1, .tuple #[.agg M, .bool true], .agg M, .bool true, .tuple #[.agg M, .bool true], .agg C1, .agg C0, .tuple #[.agg M, .bool true], .agg M, .bool true, .pointer (some ⟨b, 0, none⟩), .agg Nx, .pointer (some ⟨g4, 1, none⟩), .agg L0, .pointer (some ⟨g5, 11, none⟩), .agg H1, .pointer (some ⟨g6, 1, none⟩), .agg L2, .agg C0, .agg Sx, .slice (some ⟨gl, 0, none⟩) 5 5, .int .i64 (k : Int), .slice (some ⟨gl, 0, none⟩) 5 5, .int .i64 5, .bool false, u54, u55, u56, u57, u58, u59, u60, u61, u62, u63, u64, u65, u66, u67, u68, u69, u70, u71, u72, u73, u74, u75, u76, u77, u78, u79, .tuple #[.agg Xx, .bool true], .agg M, .agg C2, .tuple #[.agg Xx, .bool true], .agg Xx, .bool true, .tuple #[.agg Pp, .bool true], .agg C1, .agg C2, .tuple #[.agg Pp, .bool true], .agg Pp, .bool true, .tuple #[.agg Xx, .bool true], .agg C0, .agg Pp, .tuple #[.agg Xx, .bool true], .agg Xx, .bool true, .bool true, .bool true, .agg M, .agg M, .bool true, .bool true, .bool true, .bool true, .bool true, .bool true, .bool true, .bool true, .bool true, .bool true, .bool true, .bool true, .bool true, .bool true, .bool true, .bool true, .bool true, .bool true, .bool true, .bool true, .bool false, .bool false, .bool true, .bool false, .bool false, .bool false, .agg Xx, .agg Xx, .bool true, .bool true, .bool true], defers := [] }) (by intro R G; kernel_rfl) (fun _ => rfl) (by kernel_rfl) (by kernel_rfl) (by kernel_rfl) rfl (fun _ => rfl) (fun _ h => h.elim) (fun _ _ h => h) (by simp) (by simp) (fun R R' => ⟨fun _ => rfl, fun _ => rfl, fun _ => rfl, fun _ => rfl, fun _ => rfl, fun _ => rfl, fun _ => rfl, fun _ => rfl, fun _ => rfl, fun _ => rfl, fun _ => rfl, fun _ => rfl, fun _ => rfl, fun _ => rfl, fun _ => rfl, fun _ => rfl, fun _ => rfl, fun _ => rfl, fun _ => rfl, fun _ => rfl, fun _ => rfl, fun _ => rfl, fun _ => rfl, fun _ => rfl, fun _ => rfl, fun _ => rfl, fun _ => rfl, fun _ => rfl, fun _ => rfl, fun _ => rfl, fun _ => rfl, fun _ => rfl, fun _ => rfl, fun _ => rfl, fun _ => rfl, fun _ => rfl, trivial⟩) (fun _ _ _ _ => rfl) xe_below EE.out ?ops412 ?end412
              case ops412 =>
                refine ⟨?_, ?_, ?_, ?_, ?_, ?_, ?_, ?_, ?_, ?_, ?_, ?_, ?_, ?_, ?_, ?_, ?_, ?_, ?_, ?_, ?_, ?_, ?_, ?_, ?_, ?_, ?_, ?_, ?_, ?_, ?_, ?_, ?_, ?_, ?_, ?_, trivial⟩
                · refine er_q ?vn377 ?hn377 ?kn377 ?gn377 ?_
                  case hn377 => exact rfl
                  case vn377 => exact (fun R => .bool true)
                  case kn377 => exact (fun R => rfl)
                  case gn377 => exact gd_none rfl
                  intro R s w' hT hs hw ha
                  go_simp
                  exact kK.out w'
                · refine er_q ?vn378 ?hn378 ?kn378 ?gn378 ?_
                  case hn378 => exact rfl
                  case vn378 => exact (fun R => .bool true)
                  case kn378 => exact (fun R => rfl)
                  case gn378 => exact gd_none rfl
                  intro R s w' hT hs hw ha
                  go_simp
                · refine er_q ?vn379 ?hn379 ?kn379 ?gn379 ?_
                  case hn379 => exact rfl
                  case vn379 => exact (fun R => .agg M)
                  case kn379 => exact (fun R => rfl)
                  case gn379 => (refine gd_some rfl ?_; intro R; kernel_rfl)
                  intro R s w' hT hs hw ha
                  have L := ld_all (P7.sameE hw (fun h => h) (by simp)) uCone rfl iCone sM
                  refine q_load rfl ?_ L
                  kernel_rfl
                · refine er_q ?vn380 ?hn380 ?kn380 ?gn380 ?_
                  case hn380 => exact rfl
                  case vn380 => exact (fun R => .agg M)
                  case kn380 => exact (fun R => rfl)
                  case gn380 => (refine gd_some rfl ?_; intro R; kernel_rfl)
                  intro R s w' hT hs hw ha
                  have L := ld_all (P9.sameE hw (fun h => h) (by simp)) uCone rfl iCone sM
                  refine q_load rfl ?_ L
                  kernel_rfl
                · refine er_q ?vn381 ?hn381 ?kn381 ?gn381 ?_
                  case hn381 => exact rfl
                  case vn381 => exact (fun R => .bool true)
                  case kn381 => exact (fun R => rfl)
                  case gn381 => (refine gd_some rfl ?_; intro R; kernel_rfl)
                  intro R s w' hT hs hw ha
                  have L := qM.out w'
                  refine q_bin rfl ?_ ?_ (eq_agg _ _ (by kernel_rfl) _ _ _ _ w') L
                  · kernel_rfl
                  · kernel_rfl
                · refine er_q ?vn382 ?hn382 ?kn382 ?gn382 ?_
                  case hn382 => exact rfl
                  case vn382 => exact (fun R => .bool true)
                  case kn382 => exact (fun R => rfl)
                  case gn382 => exact gd_none rfl
                  intro R s w' hT hs hw ha
                  go_simp
                · refine er_q ?vn383 ?hn383 ?kn383 ?gn383 ?_
                  case hn383 => exact rfl
                  case vn383 => exact (fun R => .bool true)
                  case kn383 => exact (fun R => rfl)
                  case gn383 => exact gd_none rfl
                  intro R s w' hT hs hw ha
                  go_simp
                · refine er_q ?vn384 ?hn384 ?kn384 ?gn384 ?_
                  case hn384 => exact rfl
                  case vn384 => exact (fun R => .bool true)
                  case kn384 => exact (fun R => rfl)
                  case gn384 => (refine gd_some rfl ?_; intro R; kernel_rfl)
                  intro R s w' hT hs hw ha
                  go_simp
                · refine er_q ?vn385 ?hn385 ?kn385 ?gn385 ?_
                  case hn385 => exact rfl
                  case vn385 => exact (fun R => .bool true)
                  case kn385 => exact (fun R => rfl)
                  case gn385 => (refine gd_some rfl ?_; intro R; kernel_rfl)
                  intro R s w' hT hs hw ha
                  go_simp
                · refine er_q ?vn386 ?hn386 ?kn386 ?gn386 ?_
                  case hn386 => exact rfl
                  case vn386 => exact (fun R => .bool true)
                  case kn386 => exact (fun R => rfl)
                  case gn386 => (refine gd_some rfl ?_; intro R; kernel_rfl)
                  intro R s w' hT hs hw ha
                  go_simp
                · refine er_q ?vn387 ?hn387 ?kn387 ?gn387 ?_
                  case hn387 => exact rfl
                  case vn387 => exact (fun R => .bool true)
                  case kn387 => exact (fun R => rfl)
                  case gn387 => exact gd_none rfl
                  intro R s w' hT hs hw ha
                  go_simp
                · refine er_q ?vn388 ?hn388 ?kn388 ?gn388 ?_
                  case hn388 => exact rfl
                  case vn388 => exact (fun R => .bool true)
                  case kn388 => exact (fun R => rfl)
                  case gn388 => exact gd_none rfl
                  intro R s w' hT hs hw ha
                  go_simp
                · refine er_q ?vn389 ?hn389 ?kn389 ?gn389 ?_
                  case hn389 => exact rfl
                  case vn389 => exact (fun R => .bool true)
                  case kn389 => exact (fun R => rfl)
                  case gn389 => (refine gd_some rfl ?_; intro R; kernel_rfl)
                  intro R s w' hT hs hw ha
                  go_simp
                · refine er_q ?vn390 ?hn390 ?kn390 ?gn390 ?_
                  case hn390 => exact rfl
                  case vn390 => exact (fun R => .bool true)
                  case kn390 => exact (fun R => rfl)
                  case gn390 => (refine gd_some rfl ?_; intro R; kernel_rfl)
                  intro R s w' hT hs hw ha
                  go_simp
                · refine er_q ?vn391 ?hn391 ?kn391 ?gn391 ?_
                  case hn391 => exact rfl
                  case vn391 => exact (fun R => .bool true)
                  case kn391 => exact (fun R => rfl)
                  case gn391 => (refine gd_some rfl ?_; intro R; kernel_rfl)
                  intro R s w' hT hs hw ha
                  go_simp
                · refine er_q ?vn392 ?hn392 ?kn392 ?gn392 ?_
                  case hn392 => exact rfl
                  case vn392 => exact (fun R => .bool true)
                  case kn392 => exact (fun R => rfl)
                  case gn392 => (refine gd_some rfl ?_; intro R; kernel_rfl)
                  intro R s w' hT hs hw ha
                  go_simp
                · refine er_q ?vn393 ?hn393 ?kn393 ?gn393 ?_
                  case hn393 => exact rfl
                  case vn393 => exact (fun R => .bool true)
                  case kn393 => exact (fun R => rfl)
                  case gn393 => (refine gd_some rfl ?_; intro R; kernel_rfl)
                  intro R s w' hT hs hw ha
                  go_simp
                · refine er_q ?vn394 ?hn394 ?kn394 ?gn394 ?_
                  case hn394 => exact rfl
                  case vn394 => exact (fun R => .bool true)
                  case kn394 => exact (fun R => rfl)
                  case gn394 => (refine gd_some rfl ?_; intro R; kernel_rfl)
                  intro R s w' hT hs hw ha
                  go_simp
                · refine er_q ?vn395 ?hn395 ?kn395 ?gn395 ?_
                  case hn395 => exact rfl
                  case vn395 => exact (fun R => .bool true)
                  case kn395 => exact (fun R => rfl)
                  case gn395 => (refine gd_some rfl ?_; intro R; kernel_rfl)
                  intro R s w' hT hs hw ha
                  go_simp
                · refine er_q ?vn396 ?hn396 ?kn396 ?gn396 ?_
                  case hn396 => exact rfl
                  case vn396 => exact (fun R => .bool true)
                  case kn396 => exact (fun R => rfl)
                  case gn396 => (refine gd_some rfl ?_; intro R; kernel_rfl)
                  intro R s w' hT hs hw ha
                  go_simp
                · refine er_q ?vn397 ?hn397 ?kn397 ?gn397 ?_
                  case hn397 => exact rfl
                  case vn397 => exact (fun R => .bool true)
                  case kn397 => exact (fun R => rfl)
                  case gn397 => (refine gd_some rfl ?_; intro R; kernel_rfl)
                  intro R s w' hT hs hw ha
                  go_simp
                · refine er_q ?vn398 ?hn398 ?kn398 ?gn398 ?_
                  case hn398 => exact rfl
                  case vn398 => exact (fun R => .bool true)
                  case kn398 => exact (fun R => rfl)
                  case gn398 => exact gd_none rfl
                  intro R s w' hT hs hw ha
                  go_simp
                · refine er_q ?vn399 ?hn399 ?kn399 ?gn399 ?_
                  case hn399 => exact rfl
                  case vn399 => exact (fun R => .bool true)
                  case kn399 => exact (fun R => rfl)
                  case gn399 => exact gd_none rfl
                  intro R s w' hT hs hw ha
                  go_simp
                · refine er_q ?vn400 ?hn400 ?kn400 ?gn400 ?_
                  case hn400 => exact rfl
                  case vn400 => exact (fun R => .bool true)
                  case kn400 => exact (fun R => rfl)
                  case gn400 => (refine gd_some rfl ?_; intro R; kernel_rfl)
                  intro R s w' hT hs hw ha
                  go_simp
                · refine er_q ?vn401 ?hn401 ?kn401 ?gn401 ?_
                  case hn401 => exact rfl
                  case vn401 => exact (fun R => .bool false)
                  case kn401 => exact (fun R => rfl)
                  case gn401 => (refine gd_some rfl ?_; intro R; kernel_rfl)
                  intro R s w' hT hs hw ha
                  go_simp
                · refine er_q ?vn402 ?hn402 ?kn402 ?gn402 ?_
                  case hn402 => exact rfl
                  case vn402 => exact (fun R => .bool false)
                  case kn402 => exact (fun R => rfl)
                  case gn402 => (refine gd_some rfl ?_; intro R; kernel_rfl)
                  intro R s w' hT hs hw ha
                  go_simp
                · refine er_q ?vn403 ?hn403 ?kn403 ?gn403 ?_
                  case hn403 => exact rfl
                  case vn403 => exact (fun R => .bool true)
                  case kn403 => exact (fun R => rfl)
                  case gn403 => (refine gd_some rfl ?_; intro R; kernel_rfl)
                  intro R s w' hT hs hw ha
                  go_simp
                · refine er_q ?vn404 ?hn404 ?kn404 ?gn404 ?_
                  case hn404 => exact rfl
                  case vn404 => exact (fun R => .bool false)
                  case kn404 => exact (fun R => rfl)
                  case gn404 => (refine gd_some rfl ?_; intro R; kernel_rfl)
                  intro R s w' hT hs hw ha
                  go_simp
                · refine er_q ?vn405 ?hn405 ?kn405 ?gn405 ?_
                  case hn405 => exact rfl
                  case vn405 => exact (fun R => .bool false)
                  case kn405 => exact (fun R => rfl)
                  case gn405 => (refine gd_some rfl ?_; intro R; kernel_rfl)
                  intro R s w' hT hs hw ha
                  go_simp
                · refine er_q ?vn406 ?hn406 ?kn406 ?gn406 ?_
                  case hn406 => exact rfl
                  case vn406 => exact (fun R => .bool false)
                  case kn406 => exact (fun R => rfl)
                  case gn406 => (refine gd_some rfl ?_; intro R; kernel_rfl)
                  intro R s w' hT hs hw ha
                  go_simp
                · refine er_q ?vn407 ?hn407 ?kn407 ?gn407 ?_
                  case hn407 => exact rfl
                  case vn407 => exact (fun R => .agg Xx)
                  case kn407 => exact (fun R => rfl)
                  case gn407 => (refine gd_some rfl ?_; intro R; kernel_rfl)
                  intro R s w' hT hs hw ha
                  have L := ld_all (P13.sameE hw (fun h => h) (by simp)) uCone rfl iCone sX
                  refine q_load rfl ?_ L
                  kernel_rfl
                · refine er_q ?vn408 ?hn408 ?kn408 ?gn408 ?_
                  case hn408 => exact rfl
                  case vn408 => exact (fun R => .agg Xx)
                  case kn408 => exact (fun R => rfl)
                  case gn408 => (refine gd_some rfl ?_; intro R; kernel_rfl)
                  intro R s w' hT hs hw ha
                  have L := ld_all (P17.sameE hw (fun h => h) (by simp)) uCone rfl iCone sX
                  refine q_load rfl ?_ L
                  kernel_rfl
                · refine er_q ?vn409 ?hn409 ?kn409 ?gn409 ?_
                  case hn409 => exact rfl
                  case vn409 => exact (fun R => .bool true)
                  case kn409 => exact (fun R => rfl)
                  case gn409 => (refine gd_some rfl ?_; intro R; kernel_rfl)
                  intro R s w' hT hs hw ha
                  have L := qX.out w'
                  refine q_bin rfl ?_ ?_ (eq_agg _ _ (by kernel_rfl) _ _ _ _ w') L
                  · kernel_rfl
                  · kernel_rfl
                · refine er_q ?vn410 ?hn410 ?kn410 ?gn410 ?_
                  case hn410 => exact rfl
                  case vn410 => exact (fun R => .bool true)
                  case kn410 => exact (fun R => rfl)
                  case gn410 => (refine gd_some rfl ?_; intro R; kernel_rfl)
                  intro R s w' hT hs hw ha
                  go_simp
                · refine er_q ?vn411 ?hn411 ?kn411 ?gn411 ?_
                  case hn411 => exact rfl
                  case vn411 => exact (fun R => .bool true)
                  case kn411 => exact (fun R => rfl)
                  case gn411 => exact gd_none rfl
                  intro R s w' hT hs hw ha
                  go_simp
                · refine er_q ?vn412 ?hn412 ?kn412 ?gn412 ?_
                  case hn412 => exact rfl
                  case vn412 => exact (fun R => .bool true)
                  case kn412 => exact (fun R => rfl)
                  case gn412 => exact gd_none rfl
                  intro R s w' hT hs hw ha
                  go_simp
              case end412 =>
               intro sI R G w413 hI FF hFF
               have hS := hI.same
               have hTT := hI.holds
               have hz0 := EE.out.size
               replace P4 := P4.sameE hS (fun h => h) (by simp)
               replace P5 := P5.sameE hS (fun h => h) (by simp)
               replace P6 := P6.sameE hS (fun h => h) (by simp)
               replace P7 := P7.sameE hS (fun h => h) (by simp)
               replace P9 := P9.sameE hS (fun h => h) (by simp)
               replace P13 := P13.sameE hS (fun h => h) (by simp)
               replace P15 := P15.sameE hS (fun h => h) (by simp)
               replace P17 := P17.sameE hS (fun h => h) (by simp)
               replace EE := hide (show Ext _ _ from hTT)
               clear hS hz0 hTT hI P4_lt P5_lt P6_lt P7_lt P9_lt P13_lt P15_lt P17_lt
               dsimp only at hFF
               subst hFF
               go_wp2_with fail
               go_ret
               refine ⟨?_, EE.out⟩
               kernel_rfl
            · skip
              have P4_lt := P4.lt
              have P5_lt := P5.lt
              have P6_lt := P6.lt
              have P7_lt := P7.lt
              have P9_lt := P9.lt
              have P13_lt := P13.lt
              have P15_lt := P15.lt
              have P17_lt := P17.lt
              refine wp_evsA [.q, .q, .q, .q, .q, .q, .q, .q, .q, .q, .q, .q, .q, .q, .q, .q, .q, .q, .q, .q, .q, .q, .q, .q, .q, .q, .q, .q, .q, .q, .sk, .sk, .sk, .q, .q, .q] [0, 0, 0, 0, 0, 0, 0, 0, 0, 0, 0, 0, 0, 0, 0, 0, 0, 0, 0, 0, 0, 0, 0, 0, 0, 0, 0, 0, 0, 0, 0, 0, 0, 0, 0, 0] (fun R => [.bool true, .bool true, .agg M, .agg M, .bool true, .bool true, .bool true, .bool true, .bool true, .bool true, .bool true, .bool true, .bool true, .bool true, .bool false, .bool false, .bool true, .bool true, .bool false, .bool false, .bool true, .bool true, .bool true, .bool true, .bool false, .bool false, .bool false, .bool true, .bool true, .bool true, undef, undef, undef, .bool true, .bool true, .bool true]) (fun _ => (.cells #[] 0 (0, 0))) (fun R _ => (.cells #[] 0 (0, 0))) (fun _ => 0) (XE W) (fun _ => False) _ (fun R G => { tmps := #[.slice x len cap, undef, .bool true, .pointer (some ⟨b, 0, none⟩), .pointer (some ⟨g4, 0, none⟩), .pointer (some ⟨g5, 0, none⟩), .pointer (some ⟨g6, 0, none⟩), .pointer (some ⟨g7, 0, none⟩), .bool true, .pointer (some ⟨g9, 0, none⟩), .bool true, .slice (some ⟨gl, 0, none⟩) 5 5, .int .i64 (k : Int), .pointer (some ⟨g13, 0, none⟩), .bool false, .pointer (some ⟨g15, 0, none⟩), .bool true, .pointer (some ⟨g17, 0, none⟩), .bool false, .slice x len cap, .pointer (some ⟨b, 0, none⟩), .pointer (some ⟨b, 0, none⟩), .agg C0, .pointer (some ⟨b, 0, none⟩), .agg C1, .pointer (some ⟨b, 0, none⟩), .agg C2, .tuple #[.agg M, .bool true], .agg C0, .agg C1, .tuple #[.agg M, .bool true], .agg M, .bool true, .tuple #[.agg M, .bool true], .agg C1, .agg C0, .tuple #[.agg M, .bool true], .agg M, .bool true, .pointer (some ⟨b, 0, none⟩), .agg Nx, .pointer (some ⟨g4, 1, none⟩), .agg L0, .pointer (some ⟨g5, 11, none⟩), .agg H1, .pointer (some ⟨g6, 1, none⟩), .agg L2, .agg C0, .agg Sx, .slice (some ⟨gl, 0, none⟩) 5 5, .int .i64 (k : Int), .slice (some ⟨gl, 0, none⟩) 5 5, .int .i64 5, .bool false, u54, u55, u56, u57, u58, u59, u60, u61, u62, u63, u64, u65, u66, u67, u68, u69, u70, u71, u72, u73, u74, u75, u76, u77, u78, u79, .tuple #[.agg Xx, .bool false], .agg M, .agg C2, .tuple #[.agg Xx, .bool false], .agg Xx, .bool false, .tuple #[.agg Pp, .bool true], .agg C1, .agg C2, .tuple #[.agg Pp, .bool true], .agg Pp, .bool true, .tuple #[.agg Xx, .bool false], .agg C0, .agg Pp, .tuple #[.agg Xx, .bool false], .agg Xx, .bool false, .bool true, .bool true, .agg M, .agg M, .bool true, .bool true, .bool true, .bool true, .bool true, .bool true, .bool true, .bool true, .bool true, .bool true, .bool false, .bool false, .bool true, .bool true, .bool false, .bool false, .bool true, .bool true, .bool true, .bool true, .bool false, .bool false, .bool false, .bool true, .bool true, .bool true, undef, undef, undef, .bool true, .bool true], defers := [] }) (by intro R G; kernel_rfl) (fun _ => rfl) (by kernel_rfl) (by kernel_rfl) (by kernel_rfl) rfl (fun _ => rfl) (fun _ h => h.elim) (fun _ _ h => h) (by simp) (by simp) (fun R R' => ⟨fun _ => rfl, fun _ => rfl, fun _ => rfl, fun _ => rfl, fun _ => rfl, fun _ => rfl, fun _ => rfl, fun _ => rfl, fun _ => rfl, fun _ => rfl, fun _ => rfl, fun _ => rfl, fun _ => rfl, fun _ => rfl, fun _ => rfl, fun _ => rfl, fun _ => rfl, fun _ => rfl, fun _ => rfl, fun _ => rfl, fun _ => rfl, fun _ => rfl, fun _ => rfl, fun _ => rfl, fun _ => rfl, fun _ => rfl, fun _ => rfl, fun _ => rfl, fun _ => rfl, fun _ => rfl, fun _ => rfl, fun _ => rfl, fun _ => rfl, fun _ => rfl, fun _ => rfl, fun _ => rfl, trivial⟩) (fun _ _ _ _ => rfl) xe_below EE.out ?ops712 ?end712
              case ops712 =>
                refine ⟨?_, ?_, ?_, ?_, ?_, ?_, ?_, ?_, ?_, ?_, ?_, ?_, ?_, ?_, ?_, ?_, ?_, ?_, ?_, ?_, ?_, ?_, ?_, ?_, ?_, ?_, ?_, ?_, ?_, ?_, ?_, ?_, ?_, ?_, ?_, ?_, trivial⟩
                · refine er_q ?vn677 ?hn677 ?kn677 ?gn677 ?_
                  case hn677 => exact rfl
                  case vn677 => exact (fun R => .bool true)
                  case kn677 => exact (fun R => rfl)
                  case gn677 => exact gd_none rfl
                  intro R s w' hT hs hw ha
                  go_simp
                  exact kK.out w'
                · refine er_q ?vn678 ?hn678 ?kn678 ?gn678 ?_
                  case hn678 => exact rfl
                  case vn678 => exact (fun R => .bool true)
                  case kn678 => exact (fun R => rfl)
                  case gn678 => exact gd_none rfl
                  intro R s w' hT hs hw ha
                  go_simp
                · refine er_q ?vn679 ?hn679 ?kn679 ?gn679 ?_
                  case hn679 => exact rfl
                  case vn679 => exact (fun R => .agg M)
                  case kn679 => exact (fun R => rfl)
                  case gn679 => (refine gd_some rfl ?_; intro R; kernel_rfl)
                  intro R s w' hT hs hw ha
                  have L := ld_all (P7.sameE hw (fun h => h) (by simp)) uCone rfl iCone sM
                  refine q_load rfl ?_ L
                  kernel_rfl
                · refine er_q ?vn680 ?hn680 ?kn680 ?gn680 ?_
                  case hn680 => exact rfl
                  case vn680 => exact (fun R => .agg M)
                  case kn680 => exact (fun R => rfl)
                  case gn680 => (refine gd_some rfl ?_; intro R; kernel_rfl)
                  intro R s w' hT hs hw ha
                  have L := ld_all (P9.sameE hw (fun h => h) (by simp)) uCone rfl iCone sM
                  refine q_load rfl ?_ L
                  kernel_rfl
                · refine er_q ?vn681 ?hn681 ?kn681 ?gn681 ?_
                  case hn681 => exact rfl
                  case vn681 => exact (fun R => .bool true)
                  case kn681 => exact (fun R => rfl)
                  case gn681 => (refine gd_some rfl ?_; intro R; kernel_rfl)
                  intro R s w' hT hs hw ha
                  have L := qM.out w'
                  refine q_bin rfl ?_ ?_ (eq_agg _ _ (by kernel_rfl) _ _ _ _ w') L
                  · kernel_rfl
                  · kernel_rfl
                · refine er_q ?vn682 ?hn682 ?kn682 ?gn682 ?_
                  case hn682 => exact rfl
                  case vn682 => exact (fun R => .bool true)
                  case kn682 => exact (fun R => rfl)
                  case gn682 => exact gd_none rfl
                  intro R s w' hT hs hw ha
                  go_simp
                · refine er_q ?vn683 ?hn683 ?kn683 ?gn683 ?_
                  case hn683 => exact rfl
                  case vn683 => exact (fun R => .bool true)
                  case kn683 => exact (fun R => rfl)
                  case gn683 => exact gd_none rfl
                  intro R s w' hT hs hw ha
                  go_simp
                · refine er_q ?vn684 ?hn684 ?kn684 ?gn684 ?_
                  case hn684 => exact rfl
                  case vn684 => exact (fun R => .bool true)
                  case kn684 => exact (fun R => rfl)
                  case gn684 => (refine gd_some rfl ?_; intro R; kernel_rfl)
                  intro R s w' hT hs hw ha
                  go_simp
                · refine er_q ?vn685 ?hn685 ?kn685 ?gn685 ?_
                  case hn685 => exact rfl
                  case vn685 => exact (fun R => .bool true)
                  case kn685 => exact (fun R => rfl)
                  case gn685 => (refine gd_some rfl ?_; intro R; kernel_rfl)
                  intro R s w' hT hs hw ha
                  go_simp
                · refine er_q ?vn686 ?hn686 ?kn686 ?gn686 ?_
                  case hn686 => exact rfl
                  case vn686 => exact (fun R => .bool true)
                  case kn686 => exact (fun R => rfl)
                  case gn686 => (refine gd_some rfl ?_; intro R; kernel_rfl)
                  intro R s w' hT hs hw ha
                  go_simp
                · refine er_q ?vn687 ?hn687 ?kn687 ?gn687 ?_
                  case hn687 => exact rfl
                  case vn687 => exact (fun R => .bool true)
                  case kn687 => exact (fun R => rfl)
                  case gn687 => exact gd_none rfl
                  intro R s w' hT hs hw ha
                  go_simp
                · refine er_q ?vn688 ?hn688 ?kn688 ?gn688 ?_
                  case hn688 => exact rfl
                  case vn688 => exact (fun R => .bool true)
                  case kn688 => exact (fun R => rfl)
                  case gn688 => exact gd_none rfl
                  intro R s w' hT hs hw ha
                  go_simp
                · refine er_q ?vn689 ?hn689 ?kn689 ?gn689 ?_
                  case hn689 => exact rfl
                  case vn689 => exact (fun R => .bool true)
                  case kn689 => exact (fun R => rfl)
                  case gn689 => (refine gd_some rfl ?_; intro R; kernel_rfl)
                  intro R s w' hT hs hw ha
                  go_simp
                · refine er_q ?vn690 ?hn690 ?kn690 ?gn690 ?_
                  case hn690 => exact rfl
                  case vn690 => exact (fun R => .bool true)
                  case kn690 => exact (fun R => rfl)
                  case gn690 => (refine gd_some rfl ?_; intro R; kernel_rfl)
                  intro R s w' hT hs hw ha
                  go_simp
                · refine er_q ?vn691 ?hn691 ?kn691 ?gn691 ?_
                  case hn691 => exact rfl
                  case vn691 => exact (fun R => .bool false)
                  case kn691 => exact (fun R => rfl)
                  case gn691 => (refine gd_some rfl ?_; intro R; kernel_rfl)
                  intro R s w' hT hs hw ha
                  go_simp
                · refine er_q ?vn692 ?hn692 ?kn692 ?gn692 ?_
                  case hn692 => exact rfl
                  case vn692 => exact (fun R => .bool false)
                  case kn692 => exact (fun R => rfl)
                  case gn692 => (refine gd_some rfl ?_; intro R; kernel_rfl)
                  intro R s w' hT hs hw ha
                  go_simp
                · refine er_q ?vn693 ?hn693 ?kn693 ?gn693 ?_
                  case hn693 => exact rfl
                  case vn693 => exact (fun R => .bool true)
                  case kn693 => exact (fun R => rfl)
                  case gn693 => (refine gd_some rfl ?_; intro R; kernel_rfl)
                  intro R s w' hT hs hw ha
                  go_simp
                · refine er_q ?vn694 ?hn694 ?kn694 ?gn694 ?_
                  case hn694 => exact rfl
                  case vn694 => exact (fun R => .bool true)
                  case kn694 => exact (fun R => rfl)
                  case gn694 => (refine gd_some rfl ?_; intro R; kernel_rfl)
                  intro R s w' hT hs hw ha
                  go_simp
                · refine er_q ?vn695 ?hn695 ?kn695 ?gn695 ?_
                  case hn695 => exact rfl
                  case vn695 => exact (fun R => .bool false)
                  case kn695 => exact (fun R => rfl)
                  case gn695 => (refine gd_some rfl ?_; intro R; kernel_rfl)
                  intro R s w' hT hs hw ha
                  go_simp
                · refine er_q ?vn696 ?hn696 ?kn696 ?gn696 ?_
                  case hn696 => exact rfl
                  case vn696 => exact (fun R => .bool false)
                  case kn696 => exact (fun R => rfl)
                  case gn696 => (refine gd_some rfl ?_; intro R; kernel_rfl)
                  intro R s w' hT hs hw ha
                  go_simp
                · refine er_q ?vn697 ?hn697 ?kn697 ?gn697 ?_
                  case hn697 => exact rfl
                  case vn697 => exact (fun R => .bool true)
                  case kn697 => exact (fun R => rfl)
                  case gn697 => (refine gd_some rfl ?_; intro R; kernel_rfl)
                  intro R s w' hT hs hw ha
                  go_simp
                · refine er_q ?vn698 ?hn698 ?kn698 ?gn698 ?_
                  case hn698 => exact rfl
                  case vn698 => exact (fun R => .bool true)
                  case kn698 => exact (fun R => rfl)
                  case gn698 => exact gd_none rfl
                  intro R s w' hT hs hw ha
                  go_simp
                · refine er_q ?vn699 ?hn699 ?kn699 ?gn699 ?_
                  case hn699 => exact rfl
                  case vn699 => exact (fun R => .bool true)
                  case kn699 => exact (fun R => rfl)
                  case gn699 => exact gd_none rfl
                  intro R s w' hT hs hw ha
                  go_simp
                · refine er_q ?vn700 ?hn700 ?kn700 ?gn700 ?_
                  case hn700 => exact rfl
                  case vn700 => exact (fun R => .bool true)
                  case kn700 => exact (fun R => rfl)
                  case gn700 => (refine gd_some rfl ?_; intro R; kernel_rfl)
                  intro R s w' hT hs hw ha
                  go_simp
                · refine er_q ?vn701 ?hn701 ?kn701 ?gn701 ?_
                  case hn701 => exact rfl
                  case vn701 => exact (fun R => .bool false)
                  case kn701 => exact (fun R => rfl)
                  case gn701 => (refine gd_some rfl ?_; intro R; kernel_rfl)
                  intro R s w' hT hs hw ha
                  go_simp
                · refine er_q ?vn702 ?hn702 ?kn702 ?gn702 ?_
                  case hn702 => exact rfl
                  case vn702 => exact (fun R => .bool false)
                  case kn702 => exact (fun R => rfl)
                  case gn702 => (refine gd_some rfl ?_; intro R; kernel_rfl)
                  intro R s w' hT hs hw ha
                  go_simp
                · refine er_q ?vn703 ?hn703 ?kn703 ?gn703 ?_
                  case hn703 => exact rfl
                  case vn703 => exact (fun R => .bool false)
                  case kn703 => exact (fun R => rfl)
                  case gn703 => (refine gd_some rfl ?_; intro R; kernel_rfl)
                  intro R s w' hT hs hw ha
                  go_simp
                · refine er_q ?vn704 ?hn704 ?kn704 ?gn704 ?_
                  case hn704 => exact rfl
                  case vn704 => exact (fun R => .bool true)
                  case kn704 => exact (fun R => rfl)
                  case gn704 => (refine gd_some rfl ?_; intro R; kernel_rfl)
                  intro R s w' hT hs hw ha
                  go_simp
                · refine er_q ?vn705 ?hn705 ?kn705 ?gn705 ?_
                  case hn705 => exact rfl
                  case vn705 => exact (fun R => .bool true)
                  case kn705 => exact (fun R => rfl)
                  case gn705 => (refine gd_some rfl ?_; intro R; kernel_rfl)
                  intro R s w' hT hs hw ha
                  go_simp
                · refine er_q ?vn706 ?hn706 ?kn706 ?gn706 ?_
                  case hn706 => exact rfl
                  case vn706 => exact (fun R => .bool true)
                  case kn706 => exact (fun R => rfl)
                  case gn706 => (refine gd_some rfl ?_; intro R; kernel_rfl)
                  intro R s w' hT hs hw ha
                  go_simp
                · refine er_sk ?hn707 ?gn707
                  case hn707 => exact rfl
                  case gn707 => (refine gd_some rfl ?_; intro R; kernel_rfl)
                · refine er_sk ?hn708 ?gn708
                  case hn708 => exact rfl
                  case gn708 => (refine gd_some rfl ?_; intro R; kernel_rfl)
                · refine er_sk ?hn709 ?gn709
                  case hn709 => exact rfl
                  case gn709 => (refine gd_some rfl ?_; intro R; kernel_rfl)
                · refine er_q ?vn710 ?hn710 ?kn710 ?gn710 ?_
                  case hn710 => exact rfl
                  case vn710 => exact (fun R => .bool true)
                  case kn710 => exact (fun R => rfl)
                  case gn710 => (refine gd_some rfl ?_; intro R; kernel_rfl)
                  intro R s w' hT hs hw ha
                  go_simp
                · refine er_q ?vn711 ?hn711 ?kn711 ?gn711 ?_
                  case hn711 => exact rfl
                  case vn711 => exact (fun R => .bool true)
                  case kn711 => exact (fun R => rfl)
                  case gn711 => exact gd_none rfl
                  intro R s w' hT hs hw ha
                  go_simp
                · refine er_q ?vn712 ?hn712 ?kn712 ?gn712 ?_
                  case hn712 => exact rfl
                  case vn712 => exact (fun R => .bool true)
                  case kn712 => exact (fun R => rfl)
                  case gn712 => exact gd_none rfl
                  intro R s w' hT hs hw ha
                  go_simp
              case end712 =>
               intro sI R G w713 hI FF hFF
               have hS := hI.same
               have hTT := hI.holds
               have hz0 := EE.out.size
               replace P4 := P4.sameE hS (fun h => h) (by simp)
               replace P5 := P5.sameE hS (fun h => h) (by simp)
               replace P6 := P6.sameE hS (fun h => h) (by simp)
               replace P7 := P7.sameE hS (fun h => h) (by simp)
               replace P9 := P9.sameE hS (fun h => h) (by simp)
               replace P13 := P13.sameE hS (fun h => h) (by simp)
               replace P15 := P15.sameE hS (fun h => h) (by simp)
               replace P17 := P17.sameE hS (fun h => h) (by simp)
               replace EE := hide (show Ext _ _ from hTT)
               clear hS hz0 hTT hI P4_lt P5_lt P6_lt P7_lt P9_lt P13_lt P15_lt P17_lt
               dsimp only at hFF
               subst hFF
               go_wp2_with fail
               go_ret
               refine ⟨?_, EE.out⟩
               kernel_rfl
            · exact absurd (Hmx.out.2 rfl) (by decide)
            · skip
              have P4_lt := P4.lt
              have P5_lt := P5.lt
              have P6_lt := P6.lt
              have P7_lt := P7.lt
              have P9_lt := P9.lt
              have P13_lt := P13.lt
              have P15_lt := P15.lt
              have P17_lt := P17.lt
              refine wp_evsA [.q, .q, .q, .q, .q, .q, .q, .q, .q, .q, .q, .q, .q, .q, .q, .q, .q, .q, .sk, .q, .q, .q, .q, .q, .q, .q, .q, .q, .q, .q, .sk, .sk, .sk, .q, .q, .q] [0, 0, 0, 0, 0, 0, 0, 0, 0, 0, 0, 0, 0, 0, 0, 0, 0, 0, 0, 0, 0, 0, 0, 0, 0, 0, 0, 0, 0, 0, 0, 0, 0, 0, 0, 0] (fun R => [.bool true, .bool true, .agg M, .agg M, .bool true, .bool true, .bool true, .bool true, .bool true, .bool true, .bool true, .bool true, .bool true, .bool true, .bool false, .bool false, .bool false, .bool false, undef, .bool false, .bool true, .bool true, .bool true, .bool true, .bool false, .bool false, .bool false, .bool true, .bool true, .bool true, undef, undef, undef, .bool true, .bool true, .bool true]) (fun _ => (.cells #[] 0 (0, 0))) (fun R _ => (.cells #[] 0 (0, 0))) (fun _ => 0) (XE W) (fun _ => False) _ (fun R G => { tmps := #[.slice x len cap, undef, .bool true, .pointer (some ⟨b, 0, none⟩), .pointer (some ⟨g4, 0, none⟩), .pointer (some ⟨g5, 0, none⟩), .pointer (some ⟨g6, 0, none⟩), .pointer (some ⟨g7, 0, none⟩), .bool true, .pointer (some ⟨g9, 0, none⟩), .bool true, .slice (some ⟨gl, 0, none⟩) 5 5, .int .i64 (k : Int), .pointer (some ⟨g13, 0, none⟩), .bool false, .pointer (some ⟨g15, 0, none⟩), .bool false, .pointer (some ⟨g17, 0, none⟩), .bool false, .slice x len cap, .pointer (some ⟨b, 0, none⟩), .pointer (some ⟨b, 0, none⟩), .agg C0, .pointer (some ⟨b, 0, none⟩), .agg C1, .pointer (some ⟨b, 0, none⟩), .agg C2, .tuple #[.agg M, .bool true], .agg C0, .agg C1, .tuple #[.agg M, .bool true], .agg M, .bool true, .tuple #[.agg M, .bool true], .agg C1, .agg C0, .tuple #[.agg M, .bool true], .agg M, .bool true, .pointer (some ⟨b, 0, none⟩), .agg Nx, .pointer (some ⟨g4, 1, none⟩), .agg L0, .pointer (some ⟨g5, 11, none⟩), .agg H1, .pointer (some ⟨g6, 1, none⟩), .agg L2, .agg C0, .agg Sx, .slice (some ⟨gl, 0, none⟩) 5 5, .int .i64 (k : Int), .slice (some ⟨gl, 0, none⟩) 5 5, .int .i64 5, .bool false, u54, u55, u56, u57, u58, u59, u60, u61, u62, u63, u64, u65, u66, u67, u68, u69, u70, u71, u72, u73, u74, u75, u76, u77, u78, u79, .tuple #[.agg Xx, .bool false], .agg M, .agg C2, .tuple #[.agg Xx, .bool false], .agg Xx, .bool false, .tuple #[.agg Pp, .bool false], .agg C1, .agg C2, .tuple #[.agg Pp, .bool false], .agg Pp, .bool false, .tuple #[.agg Xx, .bool false], .agg C0, .agg Pp, .tuple #[.agg Xx, .bool false], .agg Xx, .bool false, .bool true, .bool true, .agg M, .agg M, .bool true, .bool true, .bool true, .bool true, .bool true, .bool true, .bool true, .bool true, .bool true, .bool true, .bool false, .bool false, .bool false, .bool false, undef, .bool false, .bool true, .bool true, .bool true, .bool true, .bool false, .bool false, .bool false, .bool true, .bool true, .bool true, undef, undef, undef, .bool true, .bool true], defers := [] }) (by intro R G; kernel_rfl) (fun _ => rfl) (by kernel_rfl) (by kernel_rfl) (by kernel_rfl) rfl (fun _ => rfl) (fun _ h => h.elim) (fun _ _ h => h) (by simp) (by simp) (fun R R' => ⟨fun _ => rfl, fun _ => rfl, fun _ => rfl, fun _ => rfl, fun _ => rfl, fun _ => rfl, fun _ => rfl, fun _ => rfl, fun _ => rfl, fun _ => rfl, fun _ => rfl, fun _ => rfl, fun _ => rfl, fun _ => rfl, fun _ => rfl, fun _ => rfl, fun _ => rfl, fun _ => rfl, fun _ => rfl, fun _ => rfl, fun _ => rfl, fun _ => rfl, fun _ => rfl, fun _ => rfl, fun _ => rfl, fun _ => rfl, fun _ => rfl, fun _ => rfl, fun _ => rfl, fun _ => rfl, fun _ => rfl, fun _ => rfl, fun _ => rfl, fun _ => rfl, fun _ => rfl, fun _ => rfl, trivial⟩) (fun _ _ _ _ => rfl) xe_below EE.out ?ops1312 ?end1312
              case ops1312 =>
                refine ⟨?_, ?_, ?_, ?_, ?_, ?_, ?_, ?_, ?_, ?_, ?_, ?_, ?_, ?_, ?_, ?_, ?_, ?_, ?_, ?_, ?_, ?_, ?_, ?_, ?_, ?_, ?_, ?_, ?_, ?_, ?_, ?_, ?_, ?_, ?_, ?_, trivial⟩
                · refine er_q ?vn1277 ?hn1277 ?kn1277 ?gn1277 ?_
                  case hn1277 => exact rfl
                  case vn1277 => exact (fun R => .bool true)
                  case kn1277 => exact (fun R => rfl)
                  case gn1277 => exact gd_none rfl
                  intro R s w' hT hs hw ha
                  go_simp
                  exact kK.out w'
                · refine er_q ?vn1278 ?hn1278 ?kn1278 ?gn1278 ?_
                  case hn1278 => exact rfl
                  case vn1278 => exact (fun R => .bool true)
                  case kn1278 => exact (fun R => rfl)
                  case gn1278 => exact gd_none rfl
                  intro R s w' hT hs hw ha
                  go_simp
                · refine er_q ?vn1279 ?hn1279 ?kn1279 ?gn1279 ?_
                  case hn1279 => exact rfl
                  case vn1279 => exact (fun R => .agg M)
                  case kn1279 => exact (fun R => rfl)
                  case gn1279 => (refine gd_some rfl ?_; intro R; kernel_rfl)
                  intro R s w' hT hs hw ha
                  have L := ld_all (P7.sameE hw (fun h => h) (by simp)) uCone rfl iCone sM
                  refine q_load rfl ?_ L
                  kernel_rfl
                · refine er_q ?vn1280 ?hn1280 ?kn1280 ?gn1280 ?_
                  case hn1280 => exact rfl
                  case vn1280 => exact (fun R => .agg M)
                  case kn1280 => exact (fun R => rfl)
                  case gn1280 => (refine gd_some rfl ?_; intro R; kernel_rfl)
                  intro R s w' hT hs hw ha
                  have L := ld_all (P9.sameE hw (fun h => h) (by simp)) uCone rfl iCone sM
                  refine q_load rfl ?_ L
                  kernel_rfl
                · refine er_q ?vn1281 ?hn1281 ?kn1281 ?gn1281 ?_
                  case hn1281 => exact rfl
                  case vn1281 => exact (fun R => .bool true)
                  case kn1281 => exact (fun R => rfl)
                  case gn1281 => (refine gd_some rfl ?_; intro R; kernel_rfl)
                  intro R s w' hT hs hw ha
                  have L := qM.out w'
                  refine q_bin rfl ?_ ?_ (eq_agg _ _ (by kernel_rfl) _ _ _ _ w') L
                  · kernel_rfl
                  · kernel_rfl
                · refine er_q ?vn1282 ?hn1282 ?kn1282 ?gn1282 ?_
                  case hn1282 => exact rfl
                  case vn1282 => exact (fun R => .bool true)
                  case kn1282 => exact (fun R => rfl)
                  case gn1282 => exact gd_none rfl
                  intro R s w' hT hs hw ha
                  go_simp
                · refine er_q ?vn1283 ?hn1283 ?kn1283 ?gn1283 ?_
                  case hn1283 => exact rfl
                  case vn1283 => exact (fun R => .bool true)
                  case kn1283 => exact (fun R => rfl)
                  case gn1283 => exact gd_none rfl
                  intro R s w' hT hs hw ha
                  go_simp
                · refine er_q ?vn1284 ?hn1284 ?kn1284 ?gn1284 ?_
                  case hn1284 => exact rfl
                  case vn1284 => exact (fun R => .bool true)
                  case kn1284 => exact (fun R => rfl)
                  case gn1284 => (refine gd_some rfl ?_; intro R; kernel_rfl)
                  intro R s w' hT hs hw ha
                  go_simp
                · refine er_q ?vn1285 ?hn1285 ?kn1285 ?gn1285 ?_
                  case hn1285 => exact rfl
                  case vn1285 => exact (fun R => .bool true)
                  case kn1285 => exact (fun R => rfl)
                  case gn1285 => (refine gd_some rfl ?_; intro R; kernel_rfl)
                  intro R s w' hT hs hw ha
                  go_simp
                · refine er_q ?vn1286 ?hn1286 ?kn1286 ?gn1286 ?_
                  case hn1286 => exact rfl
                  case vn1286 => exact (fun R => .bool true)
                  case kn1286 => exact (fun R => rfl)
                  case gn1286 => (refine gd_some rfl ?_; intro R; kernel_rfl)
                  intro R s w' hT hs hw ha
                  go_simp
                · refine er_q ?vn1287 ?hn1287 ?kn1287 ?gn1287 ?_
                  case hn1287 => exact rfl
                  case vn1287 => exact (fun R => .bool true)
                  case kn1287 => exact (fun R => rfl)
                  case gn1287 => exact gd_none rfl
                  intro R s w' hT hs hw ha
                  go_simp
                · refine er_q ?vn1288 ?hn1288 ?kn1288 ?gn1288 ?_
                  case hn1288 => exact rfl
                  case vn1288 => exact (fun R => .bool true)
                  case kn1288 => exact (fun R => rfl)
                  case gn1288 => exact gd_none rfl
                  intro R s w' hT hs hw ha
                  go_simp
                · refine er_q ?vn1289 ?hn1289 ?kn1289 ?gn1289 ?_
                  case hn1289 => exact rfl
                  case vn1289 => exact (fun R => .bool true)
                  case kn1289 => exact (fun R => rfl)
                  case gn1289 => (refine gd_some rfl ?_; intro R; kernel_rfl)
                  intro R s w' hT hs hw ha
                  go_simp
                · refine er_q ?vn1290 ?hn1290 ?kn1290 ?gn1290 ?_
                  case hn1290 => exact rfl
                  case vn1290 => exact (fun R => .bool true)
                  case kn1290 => exact (fun R => rfl)
                  case gn1290 => (refine gd_some rfl ?_; intro R; kernel_rfl)
                  intro R s w' hT hs hw ha
                  go_simp
                · refine er_q ?vn1291 ?hn1291 ?kn1291 ?gn1291 ?_
                  case hn1291 => exact rfl
                  case vn1291 => exact (fun R => .bool false)
                  case kn1291 => exact (fun R => rfl)
                  case gn1291 => (refine gd_some rfl ?_; intro R; kernel_rfl)
                  intro R s w' hT hs hw ha
                  go_simp
                · refine er_q ?vn1292 ?hn1292 ?kn1292 ?gn1292 ?_
                  case hn1292 => exact rfl
                  case vn1292 => exact (fun R => .bool false)
                  case kn1292 => exact (fun R => rfl)
                  case gn1292 => (refine gd_some rfl ?_; intro R; kernel_rfl)
                  intro R s w' hT hs hw ha
                  go_simp
                · refine er_q ?vn1293 ?hn1293 ?kn1293 ?gn1293 ?_
                  case hn1293 => exact rfl
                  case vn1293 => exact (fun R => .bool false)
                  case kn1293 => exact (fun R => rfl)
                  case gn1293 => (refine gd_some rfl ?_; intro R; kernel_rfl)
                  intro R s w' hT hs hw ha
                  go_simp
                · refine er_q ?vn1294 ?hn1294 ?kn1294 ?gn1294 ?_
                  case hn1294 => exact rfl
                  case vn1294 => exact (fun R => .bool false)
                  case kn1294 => exact (fun R => rfl)
                  case gn1294 => (refine gd_some rfl ?_; intro R; kernel_rfl)
                  intro R s w' hT hs hw ha
                  go_simp
                · refine er_sk ?hn1295 ?gn1295
                  case hn1295 => exact rfl
                  case gn1295 => (refine gd_some rfl ?_; intro R; kernel_rfl)
                · refine er_q ?vn1296 ?hn1296 ?kn1296 ?gn1296 ?_
                  case hn1296 => exact rfl
                  case vn1296 => exact (fun R => .bool false)
                  case kn1296 => exact (fun R => rfl)
                  case gn1296 => (refine gd_some rfl ?_; intro R; kernel_rfl)
                  intro R s w' hT hs hw ha
                  go_simp
                · refine er_q ?vn1297 ?hn1297 ?kn1297 ?gn1297 ?_
                  case hn1297 => exact rfl
                  case vn1297 => exact (fun R => .bool true)
                  case kn1297 => exact (fun R => rfl)
                  case gn1297 => (refine gd_some rfl ?_; intro R; kernel_rfl)
                  intro R s w' hT hs hw ha
                  go_simp
                · refine er_q ?vn1298 ?hn1298 ?kn1298 ?gn1298 ?_
                  case hn1298 => exact rfl
                  case vn1298 => exact (fun R => .bool true)
                  case kn1298 => exact (fun R => rfl)
                  case gn1298 => exact gd_none rfl
                  intro R s w' hT hs hw ha
                  go_simp
                · refine er_q ?vn1299 ?hn1299 ?kn1299 ?gn1299 ?_
                  case hn1299 => exact rfl
                  case vn1299 => exact (fun R => .bool true)
                  case kn1299 => exact (fun R => rfl)
                  case gn1299 => exact gd_none rfl
                  intro R s w' hT hs hw ha
                  go_simp
                · refine er_q ?vn1300 ?hn1300 ?kn1300 ?gn1300 ?_
                  case hn1300 => exact rfl
                  case vn1300 => exact (fun R => .bool true)
                  case kn1300 => exact (fun R => rfl)
                  case gn1300 => (refine gd_some rfl ?_; intro R; kernel_rfl)
                  intro R s w' hT hs hw ha
                  go_simp
                · refine er_q ?vn1301 ?hn1301 ?kn1301 ?gn1301 ?_
                  case hn1301 => exact rfl
                  case vn1301 => exact (fun R => .bool false)
                  case kn1301 => exact (fun R => rfl)
                  case gn1301 => (refine gd_some rfl ?_; intro R; kernel_rfl)
                  intro R s w' hT hs hw ha
                  go_simp
                · refine er_q ?vn1302 ?hn1302 ?kn1302 ?gn1302 ?_
                  case hn1302 => exact rfl
                  case vn1302 => exact (fun R => .bool false)
                  case kn1302 => exact (fun R => rfl)
                  case gn1302 => (refine gd_some rfl ?_; intro R; kernel_rfl)
                  intro R s w' hT hs hw ha
                  go_simp
                · refine er_q ?vn1303 ?hn1303 ?kn1303 ?gn1303 ?_
                  case hn1303 => exact rfl
                  case vn1303 => exact (fun R => .bool false)
                  case kn1303 => exact (fun R => rfl)
                  case gn1303 => (refine gd_some rfl ?_; intro R; kernel_rfl)
                  intro R s w' hT hs hw ha
                  go_simp
                · refine er_q ?vn1304 ?hn1304 ?kn1304 ?gn1304 ?_
                  case hn1304 => exact rfl
                  case vn1304 => exact (fun R => .bool true)
                  case kn1304 => exact (fun R => rfl)
                  case gn1304 => (refine gd_some rfl ?_; intro R; kernel_rfl)
                  intro R s w' hT hs hw ha
                  go_simp
                · refine er_q ?vn1305 ?hn1305 ?kn1305 ?gn1305 ?_
                  case hn1305 => exact rfl
                  case vn1305 => exact (fun R => .bool true)
                  case kn1305 => exact (fun R => rfl)
                  case gn1305 => (refine gd_some rfl ?_; intro R; kernel_rfl)
                  intro R s w' hT hs hw ha
                  go_simp
                · refine er_q ?vn1306 ?hn1306 ?kn1306 ?gn1306 ?_
                  case hn1306 => exact rfl
                  case vn1306 => exact (fun R => .bool true)
                  case kn1306 => exact (fun R => rfl)
                  case gn1306 => (refine gd_some rfl ?_; intro R; kernel_rfl)
                  intro R s w' hT hs hw ha
                  go_simp
                · refine er_sk ?hn1307 ?gn1307
                  case hn1307 => exact rfl
                  case gn1307 => (refine gd_some rfl ?_; intro R; kernel_rfl)
                · refine er_sk ?hn1308 ?gn1308
                  case hn1308 => exact rfl
                  case gn1308 => (refine gd_some rfl ?_; intro R; kernel_rfl)
                · refine er_sk ?hn1309 ?gn1309
                  case hn1309 => exact rfl
                  case gn1309 => (refine gd_some rfl ?_; intro R; kernel_rfl)
                · refine er_q ?vn1310 ?hn1310 ?kn1310 ?gn1310 ?_
                  case hn1310 => exact rfl
                  case vn1310 => exact (fun R => .bool true)
                  case kn1310 => exact (fun R => rfl)
                  case gn1310 => (refine gd_some rfl ?_; intro R; kernel_rfl)
                  intro R s w' hT hs hw ha
                  go_simp
                · refine er_q ?vn1311 ?hn1311 ?kn1311 ?gn1311 ?_
                  case hn1311 => exact rfl
                  case vn1311 => exact (fun R => .bool true)
                  case kn1311 => exact (fun R => rfl)
                  case gn1311 => exact gd_none rfl
                  intro R s w' hT hs hw ha
                  go_simp
                · refine er_q ?vn1312 ?hn1312 ?kn1312 ?gn1312 ?_
                  case hn1312 => exact rfl
                  case vn1312 => exact (fun R => .bool true)
                  case kn1312 => exact (fun R => rfl)
                  case gn1312 => exact gd_none rfl
                  intro R s w' hT hs hw ha
                  go_simp
              case end1312 =>
               intro sI R G w1313 hI FF hFF
               have hS := hI.same
               have hTT := hI.holds
               have hz0 := EE.out.size
               replace P4 := P4.sameE hS (fun h => h) (by simp)
               replace P5 := P5.sameE hS (fun h => h) (by simp)
               replace P6 := P6.sameE hS (fun h => h) (by simp)
               replace P7 := P7.sameE hS (fun h => h) (by simp)
               replace P9 := P9.sameE hS (fun h => h) (by simp)
               replace P13 := P13.sameE hS (fun h => h) (by simp)
               replace P15 := P15.sameE hS (fun h => h) (by simp)
               replace P17 := P17.sameE hS (fun h => h) (by simp)
               replace EE := hide (show Ext _ _ from hTT)
               clear hS hz0 hTT hI P4_lt P5_lt P6_lt P7_lt P9_lt P13_lt P15_lt P17_lt
               dsimp only at hFF
               subst hFF
               go_wp2_with fail
               go_ret
               refine ⟨?_, EE.out⟩
               kernel_rfl
            · exact absurd (Hmx.out.1 rfl) (by decide)
            · skip
              have P4_lt := P4.lt
              have P5_lt := P5.lt
              have P6_lt := P6.lt
              have P7_lt := P7.lt
              have P9_lt := P9.lt
              have P13_lt := P13.lt
              have P15_lt := P15.lt
              have P17_lt := P17.lt
              refine wp_evsA [.q, .q, .q, .q, .q, .q, .q, .q, .q, .q, .q, .q, .q, .q, .sk, .q, .q, .q, .q, .q, .q, .q, .q, .q, .q, .q, .sk, .sk, .q, .q, .sk, .sk, .sk, .q, .q, .q] [0, 0, 0, 0, 0, 0, 0, 0, 0, 0, 0, 0, 0, 0, 0, 0, 0, 0, 0, 0, 0, 0, 0, 0, 0, 0, 0, 0, 0, 0, 0, 0, 0, 0, 0, 0] (fun R => [.bool true, .bool true, .agg M, .agg M, .bool true, .bool true, .bool true, .bool false, .bool false, .bool true, .bool true, .bool true, .bool false, .bool false, undef, .bool false, .bool true, .bool true, .bool false, .bool false, .bool true, .bool true, .bool true, .bool false, .bool true, .bool true, undef, undef, .bool true, .bool true, undef, undef, undef, .bool true, .bool true, .bool true]) (fun _ => (.cells #[] 0 (0, 0))) (fun R _ => (.cells #[] 0 (0, 0))) (fun _ => 0) (XE W) (fun _ => False) _ (fun R G => { tmps := #[.slice x len cap, undef, .bool true, .pointer (some ⟨b, 0, none⟩), .pointer (some ⟨g4, 0, none⟩), .pointer (some ⟨g5, 0, none⟩), .pointer (some ⟨g6, 0, none⟩), .pointer (some ⟨g7, 0, none⟩), .bool false, .pointer (some ⟨g9, 0, none⟩), .bool false, .slice (some ⟨gl, 0, none⟩) 5 5, .int .i64 (k : Int), .pointer (some ⟨g13, 0, none⟩), .bool false, .pointer (some ⟨g15, 0, none⟩), .bool true, .pointer (some ⟨g17, 0, none⟩), .bool false, .slice x len cap, .pointer (some ⟨b, 0, none⟩), .pointer (some ⟨b, 0, none⟩), .agg C0, .pointer (some ⟨b, 0, none⟩), .agg C1, .pointer (some ⟨b, 0, none⟩), .agg C2, .tuple #[.agg M, .bool false], .agg C0, .agg C1, .tuple #[.agg M, .bool false], .agg M, .bool false, .tuple #[.agg M, .bool false], .agg C1, .agg C0, .tuple #[.agg M, .bool false], .agg M, .bool false, .pointer (some ⟨b, 0, none⟩), .agg Nx, .pointer (some ⟨g4, 1, none⟩), .agg L0, .pointer (some ⟨g5, 11, none⟩), .agg H1, .pointer (some ⟨g6, 1, none⟩), .agg L2, .agg C0, .agg Sx, .slice (some ⟨gl, 0, none⟩) 5 5, .int .i64 (k : Int), .slice (some ⟨gl, 0, none⟩) 5 5, .int .i64 5, .bool false, u54, u55, u56, u57, u58, u59, u60, u61, u62, u63, u64, u65, u66, u67, u68, u69, u70, u71, u72, u73, u74, u75, u76, u77, u78, u79, .tuple #[.agg Xx, .bool false], .agg M, .agg C2, .tuple #[.agg Xx, .bool false], .agg Xx, .bool false, .tuple #[.agg Pp, .bool true], .agg C1, .agg C2, .tuple #[.agg Pp, .bool true], .agg Pp, .bool true, .tuple #[.agg Xx, .bool false], .agg C0, .agg Pp, .tuple #[.agg Xx, .bool false], .agg Xx, .bool false, .bool true, .bool true, .agg M, .agg M, .bool true, .bool true, .bool true, .bool false, .bool false, .bool true, .bool true, .bool true, .bool false, .bool false, undef, .bool false, .bool true, .bool true, .bool false, .bool false, .bool true, .bool true, .bool true, .bool false, .bool true, .bool true, undef, undef, .bool true, .bool true, undef, undef, undef, .bool true, .bool true], defers := [] }) (by intro R G; kernel_rfl) (fun _ => rfl) (by kernel_rfl) (by kernel_rfl) (by kernel_rfl) rfl (fun _ => rfl) (fun _ h => h.elim) (fun _ _ h => h) (by simp) (by simp) (fun R R' => ⟨fun _ => rfl, fun _ => rfl, fun _ => rfl, fun _ => rfl, fun _ => rfl, fun _ => rfl, fun _ => rfl, fun _ => rfl, fun _ => rfl, fun _ => rfl, fun _ => rfl, fun _ => rfl, fun _ => rfl, fun _ => rfl, fun _ => rfl, fun _ => rfl, fun _ => rfl, fun _ => rfl, fun _ => rfl, fun _ => rfl, fun _ => rfl, fun _ => rfl, fun _ => rfl, fun _ => rfl, fun _ => rfl, fun _ => rfl, fun _ => rfl, fun _ => rfl, fun _ => rfl, fun _ => rfl, fun _ => rfl, fun _ => rfl, fun _ => rfl, fun _ => rfl, fun _ => rfl, fun _ => rfl, trivial⟩) (fun _ _ _ _ => rfl) xe_below EE.out ?ops1912 ?end1912
              case ops1912 =>
                refine ⟨?_, ?_, ?_, ?_, ?_, ?_, ?_, ?_, ?_, ?_, ?_, ?_, ?_, ?_, ?_, ?_, ?_, ?_, ?_, ?_, ?_, ?_, ?_, ?_, ?_, ?_, ?_, ?_, ?_, ?_, ?_, ?_, ?_, ?_, ?_, ?_, trivial⟩
                · refine er_q ?vn1877 ?hn1877 ?kn1877 ?gn1877 ?_
                  case hn1877 => exact rfl
                  case vn1877 => exact (fun R => .bool true)
                  case kn1877 => exact (fun R => rfl)
                  case gn1877 => exact gd_none rfl
                  intro R s w' hT hs hw ha
                  go_simp
                  exact kK.out w'
                · refine er_q ?vn1878 ?hn1878 ?kn1878 ?gn1878 ?_
                  case hn1878 => exact rfl
                  case vn1878 => exact (fun R => .bool true)
                  case kn1878 => exact (fun R => rfl)
                  case gn1878 => exact gd_none rfl
                  intro R s w' hT hs hw ha
                  go_simp
                · refine er_q ?vn1879 ?hn1879 ?kn1879 ?gn1879 ?_
                  case hn1879 => exact rfl
                  case vn1879 => exact (fun R => .agg M)
                  case kn1879 => exact (fun R => rfl)
                  case gn1879 => (refine gd_some rfl ?_; intro R; kernel_rfl)
                  intro R s w' hT hs hw ha
                  have L := ld_all (P7.sameE hw (fun h => h) (by simp)) uCone rfl iCone sM
                  refine q_load rfl ?_ L
                  kernel_rfl
                · refine er_q ?vn1880 ?hn1880 ?kn1880 ?gn1880 ?_
                  case hn1880 => exact rfl
                  case vn1880 => exact (fun R => .agg M)
                  case kn1880 => exact (fun R => rfl)
                  case gn1880 => (refine gd_some rfl ?_; intro R; kernel_rfl)
                  intro R s w' hT hs hw ha
                  have L := ld_all (P9.sameE hw (fun h => h) (by simp)) uCone rfl iCone sM
                  refine q_load rfl ?_ L
                  kernel_rfl
                · refine er_q ?vn1881 ?hn1881 ?kn1881 ?gn1881 ?_
                  case hn1881 => exact rfl
                  case vn1881 => exact (fun R => .bool true)
                  case kn1881 => exact (fun R => rfl)
                  case gn1881 => (refine gd_some rfl ?_; intro R; kernel_rfl)
                  intro R s w' hT hs hw ha
                  have L := qM.out w'
                  refine q_bin rfl ?_ ?_ (eq_agg _ _ (by kernel_rfl) _ _ _ _ w') L
                  · kernel_rfl
                  · kernel_rfl
                · refine er_q ?vn1882 ?hn1882 ?kn1882 ?gn1882 ?_
                  case hn1882 => exact rfl
                  case vn1882 => exact (fun R => .bool true)
                  case kn1882 => exact (fun R => rfl)
                  case gn1882 => exact gd_none rfl
                  intro R s w' hT hs hw ha
                  go_simp
                · refine er_q ?vn1883 ?hn1883 ?kn1883 ?gn1883 ?_
                  case hn1883 => exact rfl
                  case vn1883 => exact (fun R => .bool true)
                  case kn1883 => exact (fun R => rfl)
                  case gn1883 => exact gd_none rfl
                  intro R s w' hT hs hw ha
                  go_simp
                · refine er_q ?vn1884 ?hn1884 ?kn1884 ?gn1884 ?_
                  case hn1884 => exact rfl
                  case vn1884 => exact (fun R => .bool false)
                  case kn1884 => exact (fun R => rfl)
                  case gn1884 => (refine gd_some rfl ?_; intro R; kernel_rfl)
                  intro R s w' hT hs hw ha
                  go_simp
                · refine er_q ?vn1885 ?hn1885 ?kn1885 ?gn1885 ?_
                  case hn1885 => exact rfl
                  case vn1885 => exact (fun R => .bool false)
                  case kn1885 => exact (fun R => rfl)
                  case gn1885 => (refine gd_some rfl ?_; intro R; kernel_rfl)
                  intro R s w' hT hs hw ha
                  go_simp
                · refine er_q ?vn1886 ?hn1886 ?kn1886 ?gn1886 ?_
                  case hn1886 => exact rfl
                  case vn1886 => exact (fun R => .bool true)
                  case kn1886 => exact (fun R => rfl)
                  case gn1886 => (refine gd_some rfl ?_; intro R; kernel_rfl)
                  intro R s w' hT hs hw ha
                  go_simp
                · refine er_q ?vn1887 ?hn1887 ?kn1887 ?gn1887 ?_
                  case hn1887 => exact rfl
                  case vn1887 => exact (fun R => .bool true)
                  case kn1887 => exact (fun R => rfl)
                  case gn1887 => exact gd_none rfl
                  intro R s w' hT hs hw ha
                  go_simp
                · refine er_q ?vn1888 ?hn1888 ?kn1888 ?gn1888 ?_
                  case hn1888 => exact rfl
                  case vn1888 => exact (fun R => .bool true)
                  case kn1888 => exact (fun R => rfl)
                  case gn1888 => exact gd_none rfl
                  intro R s w' hT hs hw ha
                  go_simp
                · refine er_q ?vn1889 ?hn1889 ?kn1889 ?gn1889 ?_
                  case hn1889 => exact rfl
                  case vn1889 => exact (fun R => .bool false)
                  case kn1889 => exact (fun R => rfl)
                  case gn1889 => (refine gd_some rfl ?_; intro R; kernel_rfl)
                  intro R s w' hT hs hw ha
                  go_simp
                · refine er_q ?vn1890 ?hn1890 ?kn1890 ?gn1890 ?_
                  case hn1890 => exact rfl
                  case vn1890 => exact (fun R => .bool false)
                  case kn1890 => exact (fun R => rfl)
                  case gn1890 => (refine gd_some rfl ?_; intro R; kernel_rfl)
                  intro R s w' hT hs hw ha
                  go_simp
                · refine er_sk ?hn1891 ?gn1891
                  case hn1891 => exact rfl
                  case gn1891 => (refine gd_some rfl ?_; intro R; kernel_rfl)
                · refine er_q ?vn1892 ?hn1892 ?kn1892 ?gn1892 ?_
                  case hn1892 => exact rfl
                  case vn1892 => exact (fun R => .bool false)
                  case kn1892 => exact (fun R => rfl)
                  case gn1892 => (refine gd_some rfl ?_; intro R; kernel_rfl)
                  intro R s w' hT hs hw ha
                  go_simp
                · refine er_q ?vn1893 ?hn1893 ?kn1893 ?gn1893 ?_
                  case hn1893 => exact rfl
                  case vn1893 => exact (fun R => .bool true)
                  case kn1893 => exact (fun R => rfl)
                  case gn1893 => (refine gd_some rfl ?_; intro R; kernel_rfl)
                  intro R s w' hT hs hw ha
                  go_simp
                · refine er_q ?vn1894 ?hn1894 ?kn1894 ?gn1894 ?_
                  case hn1894 => exact rfl
                  case vn1894 => exact (fun R => .bool true)
                  case kn1894 => exact (fun R => rfl)
                  case gn1894 => (refine gd_some rfl ?_; intro R; kernel_rfl)
                  intro R s w' hT hs hw ha
                  go_simp
                · refine er_q ?vn1895 ?hn1895 ?kn1895 ?gn1895 ?_
                  case hn1895 => exact rfl
                  case vn1895 => exact (fun R => .bool false)
                  case kn1895 => exact (fun R => rfl)
                  case gn1895 => (refine gd_some rfl ?_; intro R; kernel_rfl)
                  intro R s w' hT hs hw ha
                  go_simp
                · refine er_q ?vn1896 ?hn1896 ?kn1896 ?gn1896 ?_
                  case hn1896 => exact rfl
                  case vn1896 => exact (fun R => .bool false)
                  case kn1896 => exact (fun R => rfl)
                  case gn1896 => (refine gd_some rfl ?_; intro R; kernel_rfl)
                  intro R s w' hT hs hw ha
                  go_simp
                · refine er_q ?vn1897 ?hn1897 ?kn1897 ?gn1897 ?_
                  case hn1897 => exact rfl
                  case vn1897 => exact (fun R => .bool true)
                  case kn1897 => exact (fun R => rfl)
                  case gn1897 => (refine gd_some rfl ?_; intro R; kernel_rfl)
                  intro R s w' hT hs hw ha
                  go_simp
                · refine er_q ?vn1898 ?hn1898 ?kn1898 ?gn1898 ?_
                  case hn1898 => exact rfl
                  case vn1898 => exact (fun R => .bool true)
                  case kn1898 => exact (fun R => rfl)
                  case gn1898 => exact gd_none rfl
                  intro R s w' hT hs hw ha
                  go_simp
                · refine er_q ?vn1899 ?hn1899 ?kn1899 ?gn1899 ?_
                  case hn1899 => exact rfl
                  case vn1899 => exact (fun R => .bool true)
                  case kn1899 => exact (fun R => rfl)
                  case gn1899 => exact gd_none rfl
                  intro R s w' hT hs hw ha
                  go_simp
                · refine er_q ?vn1900 ?hn1900 ?kn1900 ?gn1900 ?_
                  case hn1900 => exact rfl
                  case vn1900 => exact (fun R => .bool false)
                  case kn1900 => exact (fun R => rfl)
                  case gn1900 => (refine gd_some rfl ?_; intro R; kernel_rfl)
                  intro R s w' hT hs hw ha
                  go_simp
                · refine er_q ?vn1901 ?hn1901 ?kn1901 ?gn1901 ?_
                  case hn1901 => exact rfl
                  case vn1901 => exact (fun R => .bool true)
                  case kn1901 => exact (fun R => rfl)
                  case gn1901 => (refine gd_some rfl ?_; intro R; kernel_rfl)
                  intro R s w' hT hs hw ha
                  go_simp
                · refine er_q ?vn1902 ?hn1902 ?kn1902 ?gn1902 ?_
                  case hn1902 => exact rfl
                  case vn1902 => exact (fun R => .bool true)
                  case kn1902 => exact (fun R => rfl)
                  case gn1902 => (refine gd_some rfl ?_; intro R; kernel_rfl)
                  intro R s w' hT hs hw ha
                  go_simp
                · refine er_sk ?hn1903 ?gn1903
                  case hn1903 => exact rfl
                  case gn1903 => (refine gd_some rfl ?_; intro R; kernel_rfl)
                · refine er_sk ?hn1904 ?gn1904
                  case hn1904 => exact rfl
                  case gn1904 => (refine gd_some rfl ?_; intro R; kernel_rfl)
                · refine er_q ?vn1905 ?hn1905 ?kn1905 ?gn1905 ?_
                  case hn1905 => exact rfl
                  case vn1905 => exact (fun R => .bool true)
                  case kn1905 => exact (fun R => rfl)
                  case gn1905 => (refine gd_some rfl ?_; intro R; kernel_rfl)
                  intro R s w' hT hs hw ha
                  go_simp
                · refine er_q ?vn1906 ?hn1906 ?kn1906 ?gn1906 ?_
                  case hn1906 => exact rfl
                  case vn1906 => exact (fun R => .bool true)
                  case kn1906 => exact (fun R => rfl)
                  case gn1906 => (refine gd_some rfl ?_; intro R; kernel_rfl)
                  intro R s w' hT hs hw ha
                  go_simp
                · refine er_sk ?hn1907 ?gn1907
                  case hn1907 => exact rfl
                  case gn1907 => (refine gd_some rfl ?_; intro R; kernel_rfl)
                · refine er_sk ?hn1908 ?gn1908
                  case hn1908 => exact rfl
                  case gn1908 => (refine gd_some rfl ?_; intro R; kernel_rfl)
                · refine er_sk ?hn1909 ?gn1909
                  case hn1909 => exact rfl
                  case gn1909 => (refine gd_some rfl ?_; intro R; kernel_rfl)
                · refine er_q ?vn1910 ?hn1910 ?kn1910 ?gn1910 ?_
                  case hn1910 => exact rfl
                  case vn1910 => exact (fun R => .bool true)
                  case kn1910 => exact (fun R => rfl)
                  case gn1910 => (refine gd_some rfl ?_; intro R; kernel_rfl)
                  intro R s w' hT hs hw ha
                  go_simp
                · refine er_q ?vn1911 ?hn1911 ?kn1911 ?gn1911 ?_
                  case hn1911 => exact rfl
                  case vn1911 => exact (fun R => .bool true)
                  case kn1911 => exact (fun R => rfl)
                  case gn1911 => exact gd_none rfl
                  intro R s w' hT hs hw ha
                  go_simp
                · refine er_q ?vn1912 ?hn1912 ?kn1912 ?gn1912 ?_
                  case hn1912 => exact rfl
                  case vn1912 => exact (fun R => .bool true)
                  case kn1912 => exact (fun R => rfl)
                  case gn1912 => exact gd_none rfl
                  intro R s w' hT hs hw ha
                  go_simp
              case end1912 =>
               intro sI R G w1913 hI FF hFF
               have hS := hI.same
               have hTT := hI.holds
               have hz0 := EE.out.size
               replace P4 := P4.sameE hS (fun h => h) (by simp)
               replace P5 := P5.sameE hS (fun h => h) (by simp)
               replace P6 := P6.sameE hS (fun h => h) (by simp)
               replace P7 := P7.sameE hS (fun h => h) (by simp)
               replace P9 := P9.sameE hS (fun h => h) (by simp)
               replace P13 := P13.sameE hS (fun h => h) (by simp)
               replace P15 := P15.sameE hS (fun h => h) (by simp)
               replace P17 := P17.sameE hS (fun h => h) (by simp)
               replace EE := hide (show Ext _ _ from hTT)
               clear hS hz0 hTT hI P4_lt P5_lt P6_lt P7_lt P9_lt P13_lt P15_lt P17_lt
               dsimp only at hFF
               subst hFF
               go_wp2_with fail
               go_ret
               refine ⟨?_, EE.out⟩
               kernel_rfl
            · exact absurd (Hmx.out.1 rfl) (by decide)
            · skip
              have P4_lt := P4.lt
              have P5_lt := P5.lt
              have P6_lt := P6.lt
              have P7_lt := P7.lt
              have P9_lt := P9.lt
              have P13_lt := P13.lt
              have P15_lt := P15.lt
              have P17_lt := P17.lt
              refine wp_evsA [.q, .q, .q, .q, .q, .q, .q, .q, .q, .q, .q, .q, .q, .q, .sk, .q, .q, .q, .sk, .q, .q, .q, .q, .q, .q, .q, .sk, .sk, .q, .q, .sk, .sk, .sk, .q, .q, .q] [0, 0, 0, 0, 0, 0, 0, 0, 0, 0, 0, 0, 0, 0, 0, 0, 0, 0, 0, 0, 0, 0, 0, 0, 0, 0, 0, 0, 0, 0, 0, 0, 0, 0, 0, 0] (fun R => [.bool true, .bool true, .agg M, .agg M, .bool true, .bool true, .bool true, .bool false, .bool false, .bool true, .bool true, .bool true, .bool false, .bool false, undef, .bool false, .bool false, .bool false, undef, .bool false, .bool true, .bool true, .bool true, .bool false, .bool true, .bool true, undef, undef, .bool true, .bool true, undef, undef, undef, .bool true, .bool true, .bool true]) (fun _ => (.cells #[] 0 (0, 0))) (fun R _ => (.cells #[] 0 (0, 0))) (fun _ => 0) (XE W) (fun _ => False) _ (fun R G => { tmps := #[.slice x len cap, undef, .bool true, .pointer (some ⟨b, 0, none⟩), .pointer (some ⟨g4, 0, none⟩), .pointer (some ⟨g5, 0, none⟩), .pointer (some ⟨g6, 0, none⟩), .pointer (some ⟨g7, 0, none⟩), .bool false, .pointer (some ⟨g9, 0, none⟩), .bool false, .slice (some ⟨gl, 0, none⟩) 5 5, .int .i64 (k : Int), .pointer (some ⟨g13, 0, none⟩), .bool false, .pointer (some ⟨g15, 0, none⟩), .bool false, .pointer (some ⟨g17, 0, none⟩), .bool false, .slice x len cap, .pointer (some ⟨b, 0, none⟩), .pointer (some ⟨b, 0, none⟩), .agg C0, .pointer (some ⟨b, 0, none⟩), .agg C1, .pointer (some ⟨b, 0, none⟩), .agg C2, .tuple #[.agg M, .bool false], .agg C0, .agg C1, .tuple #[.agg M, .bool false], .agg M, .bool false, .tuple #[.agg M, .bool false], .agg C1, .agg C0, .tuple #[.agg M, .bool false], .agg M, .bool false, .pointer (some ⟨b, 0, none⟩), .agg Nx, .pointer (some ⟨g4, 1, none⟩), .agg L0, .pointer (some ⟨g5, 11, none⟩), .agg H1, .pointer (some ⟨g6, 1, none⟩), .agg L2, .agg C0, .agg Sx, .slice (some ⟨gl, 0, none⟩) 5 5, .int .i64 (k : Int), .slice (some ⟨gl, 0, none⟩) 5 5, .int .i64 5, .bool false, u54, u55, u56, u57, u58, u59, u60, u61, u62, u63, u64, u65, u66, u67, u68, u69, u70, u71, u72, u73, u74, u75, u76, u77, u78, u79, .tuple #[.agg Xx, .bool false], .agg M, .agg C2, .tuple #[.agg Xx, .bool false], .agg Xx, .bool false, .tuple #[.agg Pp, .bool false], .agg C1, .agg C2, .tuple #[.agg Pp, .bool false], .agg Pp, .bool false, .tuple #[.agg Xx, .bool false], .agg C0, .agg Pp, .tuple #[.agg Xx, .bool false], .agg Xx, .bool false, .bool true, .bool true, .agg M, .agg M, .bool true, .bool true, .bool true, .bool false, .bool false, .bool true, .bool true, .bool true, .bool false, .bool false, undef, .bool false, .bool false, .bool false, undef, .bool false, .bool true, .bool true, .bool true, .bool false, .bool true, .bool true, undef, undef, .bool true, .bool true, undef, undef, undef, .bool true, .bool true], defers := [] }) (by intro R G; kernel_rfl) (fun _ => rfl) (by kernel_rfl) (by kernel_rfl) (by kernel_rfl) rfl (fun _ => rfl) (fun _ h => h.elim) (fun _ _ h => h) (by simp) (by simp) (fun R R' => ⟨fun _ => rfl, fun _ => rfl, fun _ => rfl, fun _ => rfl, fun _ => rfl, fun _ => rfl, fun _ => rfl, fun _ => rfl, fun _ => rfl, fun _ => rfl, fun _ => rfl, fun _ => rfl, fun _ => rfl, fun _ => rfl, fun _ => rfl, fun _ => rfl, fun _ => rfl, fun _ => rfl, fun _ => rfl, fun _ => rfl, fun _ => rfl, fun _ => rfl, fun _ => rfl, fun _ => rfl, fun _ => rfl, fun _ => rfl, fun _ => rfl, fun _ => rfl, fun _ => rfl, fun _ => rfl, fun _ => rfl, fun _ => rfl, fun _ => rfl, fun _ => rfl, fun _ => rfl, fun _ => rfl, trivial⟩) (fun _ _ _ _ => rfl) xe_below EE.out ?ops2512 ?end2512
              case ops2512 =>
                refine ⟨?_, ?_, ?_, ?_, ?_, ?_, ?_, ?_, ?_, ?_, ?_, ?_, ?_, ?_, ?_, ?_, ?_, ?_, ?_, ?_, ?_, ?_, ?_, ?_, ?_, ?_, ?_, ?_, ?_, ?_, ?_, ?_, ?_, ?_, ?_, ?_, trivial⟩
                · refine er_q ?vn2477 ?hn2477 ?kn2477 ?gn2477 ?_
                  case hn2477 => exact rfl
                  case vn2477 => exact (fun R => .bool true)
                  case kn2477 => exact (fun R => rfl)
                  case gn2477 => exact gd_none rfl
                  intro R s w' hT hs hw ha
                  go_simp
                  exact kK.out w'
                · refine er_q ?vn2478 ?hn2478 ?kn2478 ?gn2478 ?_
                  case hn2478 => exact rfl
                  case vn2478 => exact (fun R => .bool true)
                  case kn2478 => exact (fun R => rfl)
                  case gn2478 => exact gd_none rfl
                  intro R s w' hT hs hw ha
                  go_simp
                · refine er_q ?vn2479 ?hn2479 ?kn2479 ?gn2479 ?_
                  case hn2479 => exact rfl
                  case vn2479 => exact (fun R => .agg M)
                  case kn2479 => exact (fun R => rfl)
                  case gn2479 => (refine gd_some rfl ?_; intro R; kernel_rfl)
                  intro R s w' hT hs hw ha
                  have L := ld_all (P7.sameE hw (fun h => h) (by simp)) uCone rfl iCone sM
                  refine q_load rfl ?_ L
                  kernel_rfl
                · refine er_q ?vn2480 ?hn2480 ?kn2480 ?gn2480 ?_
                  case hn2480 => exact rfl
                  case vn2480 => exact (fun R => .agg M)
                  case kn2480 => exact (fun R => rfl)
                  case gn2480 => (refine gd_some rfl ?_; intro R; kernel_rfl)
                  intro R s w' hT hs hw ha
                  have L := ld_all (P9.sameE hw (fun h => h) (by simp)) uCone rfl iCone sM
                  refine q_load rfl ?_ L
                  kernel_rfl
                · refine er_q ?vn2481 ?hn2481 ?kn2481 ?gn2481 ?_
                  case hn2481 => exact rfl
                  case vn2481 => exact (fun R => .bool true)
                  case kn2481 => exact (fun R => rfl)
                  case gn2481 => (refine gd_some rfl ?_; intro R; kernel_rfl)
                  intro R s w' hT hs hw ha
                  have L := qM.out w'
                  refine q_bin rfl ?_ ?_ (eq_agg _ _ (by kernel_rfl) _ _ _ _ w') L
                  · kernel_rfl
                  · kernel_rfl
                · refine er_q ?vn2482 ?hn2482 ?kn2482 ?gn2482 ?_
                  case hn2482 => exact rfl
                  case vn2482 => exact (fun R => .bool true)
                  case kn2482 => exact (fun R => rfl)
                  case gn2482 => exact gd_none rfl
                  intro R s w' hT hs hw ha
                  go_simp
                · refine er_q ?vn2483 ?hn2483 ?kn2483 ?gn2483 ?_
                  case hn2483 => exact rfl
                  case vn2483 => exact (fun R => .bool true)
                  case kn2483 => exact (fun R => rfl)
                  case gn2483 => exact gd_none rfl
                  intro R s w' hT hs hw ha
                  go_simp
                · refine er_q ?vn2484 ?hn2484 ?kn2484 ?gn2484 ?_
                  case hn2484 => exact rfl
                  case vn2484 => exact (fun R => .bool false)
                  case kn2484 => exact (fun R => rfl)
                  case gn2484 => (refine gd_some rfl ?_; intro R; kernel_rfl)
                  intro R s w' hT hs hw ha
                  go_simp
                · refine er_q ?vn2485 ?hn2485 ?kn2485 ?gn2485 ?_
                  case hn2485 => exact rfl
                  case vn2485 => exact (fun R => .bool false)
                  case kn2485 => exact (fun R => rfl)
                  case gn2485 => (refine gd_some rfl ?_; intro R; kernel_rfl)
                  intro R s w' hT hs hw ha
                  go_simp
                · refine er_q ?vn2486 ?hn2486 ?kn2486 ?gn2486 ?_
                  case hn2486 => exact rfl
                  case vn2486 => exact (fun R => .bool true)
                  case kn2486 => exact (fun R => rfl)
                  case gn2486 => (refine gd_some rfl ?_; intro R; kernel_rfl)
                  intro R s w' hT hs hw ha
                  go_simp
                · refine er_q ?vn2487 ?hn2487 ?kn2487 ?gn2487 ?_
                  case hn2487 => exact rfl
                  case vn2487 => exact (fun R => .bool true)
                  case kn2487 => exact (fun R => rfl)
                  case gn2487 => exact gd_none rfl
                  intro R s w' hT hs hw ha
                  go_simp
                · refine er_q ?vn2488 ?hn2488 ?kn2488 ?gn2488 ?_
                  case hn2488 => exact rfl
                  case vn2488 => exact (fun R => .bool true)
                  case kn2488 => exact (fun R => rfl)
                  case gn2488 => exact gd_none rfl
                  intro R s w' hT hs hw ha
                  go_simp
                · refine er_q ?vn2489 ?hn2489 ?kn2489 ?gn2489 ?_
                  case hn2489 => exact rfl
                  case vn2489 => exact (fun R => .bool false)
                  case kn2489 => exact (fun R => rfl)
                  case gn2489 => (refine gd_some rfl ?_; intro R; kernel_rfl)
                  intro R s w' hT hs hw ha
                  go_simp
                · refine er_q ?vn2490 ?hn2490 ?kn2490 ?gn2490 ?_
                  case hn2490 => exact rfl
                  case vn2490 => exact (fun R => .bool false)
                  case kn2490 => exact (fun R => rfl)
                  case gn2490 => (refine gd_some rfl ?_; intro R; kernel_rfl)
                  intro R s w' hT hs hw ha
                  go_simp
                · refine er_sk ?hn2491 ?gn2491
                  case hn2491 => exact rfl
                  case gn2491 => (refine gd_some rfl ?_; intro R; kernel_rfl)
                · refine er_q ?vn2492 ?hn2492 ?kn2492 ?gn2492 ?_
                  case hn2492 => exact rfl
                  case vn2492 => exact (fun R => .bool false)
                  case kn2492 => exact (fun R => rfl)
                  case gn2492 => (refine gd_some rfl ?_; intro R; kernel_rfl)
                  intro R s w' hT hs hw ha
                  go_simp
                · refine er_q ?vn2493 ?hn2493 ?kn2493 ?gn2493 ?_
                  case hn2493 => exact rfl
                  case vn2493 => exact (fun R => .bool false)
                  case kn2493 => exact (fun R => rfl)
                  case gn2493 => (refine gd_some rfl ?_; intro R; kernel_rfl)
                  intro R s w' hT hs hw ha
                  go_simp
                · refine er_q ?vn2494 ?hn2494 ?kn2494 ?gn2494 ?_
                  case hn2494 => exact rfl
                  case vn2494 => exact (fun R => .bool false)
                  case kn2494 => exact (fun R => rfl)
                  case gn2494 => (refine gd_some rfl ?_; intro R; kernel_rfl)
                  intro R s w' hT hs hw ha
                  go_simp
                · refine er_sk ?hn2495 ?gn2495
                  case hn2495 => exact rfl
                  case gn2495 => (refine gd_some rfl ?_; intro R; kernel_rfl)
                · refine er_q ?vn2496 ?hn2496 ?kn2496 ?gn2496 ?_
                  case hn2496 => exact rfl
                  case vn2496 => exact (fun R => .bool false)
                  case kn2496 => exact (fun R => rfl)
                  case gn2496 => (refine gd_some rfl ?_; intro R; kernel_rfl)
                  intro R s w' hT hs hw ha
                  go_simp
                · refine er_q ?vn2497 ?hn2497 ?kn2497 ?gn2497 ?_
                  case hn2497 => exact rfl
                  case vn2497 => exact (fun R => .bool true)
                  case kn2497 => exact (fun R => rfl)
                  case gn2497 => (refine gd_some rfl ?_; intro R; kernel_rfl)
                  intro R s w' hT hs hw ha
                  go_simp
                · refine er_q ?vn2498 ?hn2498 ?kn2498 ?gn2498 ?_
                  case hn2498 => exact rfl
                  case vn2498 => exact (fun R => .bool true)
                  case kn2498 => exact (fun R => rfl)
                  case gn2498 => exact gd_none rfl
                  intro R s w' hT hs hw ha
                  go_simp
                · refine er_q ?vn2499 ?hn2499 ?kn2499 ?gn2499 ?_
                  case hn2499 => exact rfl
                  case vn2499 => exact (fun R => .bool true)
                  case kn2499 => exact (fun R => rfl)
                  case gn2499 => exact gd_none rfl
                  intro R s w' hT hs hw ha
                  go_simp
                · refine er_q ?vn2500 ?hn2500 ?kn2500 ?gn2500 ?_
                  case hn2500 => exact rfl
                  case vn2500 => exact (fun R => .bool false)
                  case kn2500 => exact (fun R => rfl)
                  case gn2500 => (refine gd_some rfl ?_; intro R; kernel_rfl)
                  intro R s w' hT hs hw ha
                  go_simp
                · refine er_q ?vn2501 ?hn2501 ?kn2501 ?gn2501 ?_
                  case hn2501 => exact rfl
                  case vn2501 => exact (fun R => .bool true)
                  case kn2501 => exact (fun R => rfl)
                  case gn2501 => (refine gd_some rfl ?_; intro R; kernel_rfl)
                  intro R s w' hT hs hw ha
                  go_simp
                · refine er_q ?vn2502 ?hn2502 ?kn2502 ?gn2502 ?_
                  case hn2502 => exact rfl
                  case vn2502 => exact (fun R => .bool true)
                  case kn2502 => exact (fun R => rfl)
                  case gn2502 => (refine gd_some rfl ?_; intro R; kernel_rfl)
                  intro R s w' hT hs hw ha
                  go_simp
                · refine er_sk ?hn2503 ?gn2503
                  case hn2503 => exact rfl
                  case gn2503 => (refine gd_some rfl ?_; intro R; kernel_rfl)
                · refine er_sk ?hn2504 ?gn2504
                  case hn2504 => exact rfl
                  case gn2504 => (refine gd_some rfl ?_; intro R; kernel_rfl)
                · refine er_q ?vn2505 ?hn2505 ?kn2505 ?gn2505 ?_
                  case hn2505 => exact rfl
                  case vn2505 => exact (fun R => .bool true)
                  case kn2505 => exact (fun R => rfl)
                  case gn2505 => (refine gd_some rfl ?_; intro R; kernel_rfl)
                  intro R s w' hT hs hw ha
                  go_simp
                · refine er_q ?vn2506 ?hn2506 ?kn2506 ?gn2506 ?_
                  case hn2506 => exact rfl
                  case vn2506 => exact (fun R => .bool true)
                  case kn2506 => exact (fun R => rfl)
                  case gn2506 => (refine gd_some rfl ?_; intro R; kernel_rfl)
                  intro R s w' hT hs hw ha
                  go_simp
                · refine er_sk ?hn2507 ?gn2507
                  case hn2507 => exact rfl
                  case gn2507 => (refine gd_some rfl ?_; intro R; kernel_rfl)
                · refine er_sk ?hn2508 ?gn2508
                  case hn2508 => exact rfl
                  case gn2508 => (refine gd_some rfl ?_; intro R; kernel_rfl)
                · refine er_sk ?hn2509 ?gn2509
                  case hn2509 => exact rfl
                  case gn2509 => (refine gd_some rfl ?_; intro R; kernel_rfl)
                · refine er_q ?vn2510 ?hn2510 ?kn2510 ?gn2510 ?_
                  case hn2510 => exact rfl
                  case vn2510 => exact (fun R => .bool true)
                  case kn2510 => exact (fun R => rfl)
                  case gn2510 => (refine gd_some rfl ?_; intro R; kernel_rfl)
                  intro R s w' hT hs hw ha
                  go_simp
                · refine er_q ?vn2511 ?hn2511 ?kn2511 ?gn2511 ?_
                  case hn2511 => exact rfl
                  case vn2511 => exact (fun R => .bool true)
                  case kn2511 => exact (fun R => rfl)
                  case gn2511 => exact gd_none rfl
                  intro R s w' hT hs hw ha
                  go_simp
                · refine er_q ?vn2512 ?hn2512 ?kn2512 ?gn2512 ?_
                  case hn2512 => exact rfl
                  case vn2512 => exact (fun R => .bool true)
                  case kn2512 => exact (fun R => rfl)
                  case gn2512 => exact gd_none rfl
                  intro R s w' hT hs hw ha
                  go_simp
              case end2512 =>
               intro sI R G w2513 hI FF hFF
               have hS := hI.same
               have hTT := hI.holds
               have hz0 := EE.out.size
               replace P4 := P4.sameE hS (fun h => h) (by simp)
               replace P5 := P5.sameE hS (fun h => h) (by simp)
               replace P6 := P6.sameE hS (fun h => h) (by simp)
               replace P7 := P7.sameE hS (fun h => h) (by simp)
               replace P9 := P9.sameE hS (fun h => h) (by simp)
               replace P13 := P13.sameE hS (fun h => h) (by simp)
               replace P15 := P15.sameE hS (fun h => h) (by simp)
               replace P17 := P17.sameE hS (fun h => h) (by simp)
               replace EE := hide (show Ext _ _ from hTT)
               clear hS hz0 hTT hI P4_lt P5_lt P6_lt P7_lt P9_lt P13_lt P15_lt P17_lt
               dsimp only at hFF
               subst hFF
               go_wp2_with fail
               go_ret
               refine ⟨?_, EE.out⟩
               kernel_rfl
end
end Go.Proofs.Ythlbkidgdngblaa
