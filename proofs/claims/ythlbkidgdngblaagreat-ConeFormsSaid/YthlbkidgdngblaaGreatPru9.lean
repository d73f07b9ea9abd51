/- Part 9 of what these claims stand on: contracts of the program's and the reference's functions, and plain facts. Conditions: each states its own. -/
import Derived.Test.YthlbkidgdngblaaGreatPru8
namespace Go.Proofs.YthlbkidgdngblaaGreat
set_option linter.unusedVariables false
set_option linter.unusedSimpArgs false
section
open Go Go.RowKit Go.Sort
attribute [local go_sem] qUpon eUpon putE slE
theorem badR_zero' : BadR zR := by
 refine ⟨false, 0, 0, 0, 0, false, 0, 0, 0, 0, 0, 0, rfl, ⟨by omega, by omega, by omega, by omega, rfl⟩, ⟨by omega, by omega, by omega, by omega, rfl⟩, fun h => ?_⟩
 have := h.2.2.1
 omega
theorem cn_form2 {c : Cn} (hc : okC c) : ∃ o L H, cnC c = coneC o L H ∧ RawR L ∧ RawR H := by
 cases c with
 | op => exact ⟨true, zR, zR, rfl, Or.inr badR_zero', Or.inr badR_zero'⟩
 | cl a b => exact ⟨false, frC a, frC b, rfl, Or.inl ⟨a, hc.1, rfl⟩, Or.inl ⟨b, hc.2.1, rfl⟩⟩
theorem cone_turn {o : Bool} {L H : Array Value} (hL : RC L) (hH : RC H) (v : Bool) : (coneC o L H).setIfInBounds 0 (.bool v) = coneC v L H := by
 obtain ⟨s, a, b, c, e, t, f, g, h, i, rfl⟩ := hL
 obtain ⟨s', a', b', c', e', t', f', g', h', i', rfl⟩ := hH
 kernel_rfl
set_option maxHeartbeats 12800000 in
set_option maxRecDepth 100000 in
theorem law_cforms (Xa Xb Xs : Array Value) (ra : RawC Xa) (rb : RawC Xb) (rs : RawR Xs) (x : Option Addr) (len cap : Nat) (W : World) (hL : IsList W x len cap) :
   Calls Tryz.prog 3 #[.agg Xa, .agg Xb, .agg Xs, .slice x len cap] W (BoolRet true W) := by
 have kK : Hid (∀ w, Calls Tryz.prog 6 #[] w (Ret (.bool true) w)) := fun w => l_known13q w
 have kA : Hid (∀ {X Y S : Array Value}, RawC X → RawC Y → RawR S → ∀ w, Calls Tryz.prog 9 #[.agg X, .agg Y, .agg S] w (Ret (.bool true) w)) := fun hX hY hS w => l_alk p_all hX hY hS w
 have kS : Hid (∀ w, Calls Tryz.prog 7 #[] w (Ret (.agg stC) w)) := fun w => pc_start w
 have kT : Hid (∀ w, Calls Tryz.prog 8 #[] w (Ret (.agg stC) w)) := fun w => rc_start w
 have qS : Hid (∀ w, (binOp .eql 29 (.agg stC) (.agg stC)).run Tryz.prog w = .ok (.bool true) w) := fun w => eq_cone true RC.zero RC.zero w
 have HL := hide hL
 have sXa := (raw_size ra).1
 have oXa := (raw_size ra).2
 have sXb := (raw_size rb).1
 have oXb := (raw_size rb).2
 have sXs := rs.rc.size
 have oXs := rs.rc.one
 have k0 := hide (kA.out ra rb rs)
 clear hL
 have P4 := ((Blk.new W 29 Xa).alloc (.cells Xb 29)).alloc (.cells Xs 27)
 have P5 := (Blk.new (W.alloc (.cells Xa 29)) 29 Xb).alloc (.cells Xs 27)
 rw [alloc_size] at P5
 have P6 := Blk.new ((W.alloc (.cells Xa 29)).alloc (.cells Xb 29)) 27 Xs
 simp only [alloc_size] at P6
 have EE := hide (((ext_alloc W (.cells Xa 29)).trans (ext_alloc _ (.cells Xb 29))).trans (ext_alloc _ (.cells Xs 27)))
 obtain ⟨W1, hW1⟩ : ∃ W1, (((W.alloc (.cells Xa 29)).alloc (.cells Xb 29)).alloc (.cells Xs 27)) = W1 := ⟨_, rfl⟩
 obtain ⟨g0, hg⟩ : ∃ g, W.heap.size = g := ⟨_, rfl⟩
 rw [hW1] at P4 P5 P6 EE
 rw [hg] at P4 P5 P6
 have P4_lo : W.heap.size ≤ g0 := by omega
 have P5_lo : W.heap.size ≤ g0 + 1 := by omega
 have P6_lo : W.heap.size ≤ g0 + 1 + 1 := by omega
 have HW := hide hW1
 have Hg := hide hg
 clear hW1 hg
 go_enter Tryz.func3, Tryz.ntmps3
 go_upto_region 1 with fail
 rw [HW.out, Hg.out]
 clear HW Hg
 go_upto_region 2 with (go_at_call 4; (with_reducible refine (t_new W1 x len cap (HL.out.ext EE.out)).mono ?_); rintro e w1 ⟨rfl, T0, hB⟩)
 obtain ⟨b, hb⟩ : ∃ b, W1.heap.size = b := ⟨_, rfl⟩
 have P4_lt0 := P4.lt
 replace P4 := P4.ext hB
 rw [hb] at P4_lt0
 have P4_nb : g0 ≠ b := by omega
 have P5_lt0 := P5.lt
 replace P5 := P5.ext hB
 rw [hb] at P5_lt0
 have P5_nb : g0 + 1 ≠ b := by omega
 have P6_lt0 := P6.lt
 replace P6 := P6.ext hB
 rw [hb] at P6_lt0
 have P6_nb : g0 + 1 + 1 ≠ b := by omega
 rw [hb] at T0 hB
 have EB : Hid (Ext W w1) := hide (EE.out.trans (by rw [← hb] at hB; exact hB))
 rw [hb]
 have hBw : b ≤ w1.heap.size := by have := T0.2.1; omega
 have hWb : W.heap.size ≤ b := by omega
 clear hb hB EE
 have UU : Hid (Upd b w1 w1) := hide (Upd.refl _ _)
 have P4_lt := P4.lt
 have P5_lt := P5.lt
 have P6_lt := P6.lt
 refine wp_evs [.q, .ev 0, .q, .ev 1, .al, .al, .st 4, .st 5] [0, 0, 0, 1, 0, 0, 1, 2] (fun R => [.pointer (some ⟨b, 0, none⟩), undef, .pointer (some ⟨b, 0, none⟩), undef, undef, undef, undef, undef]) (fun i => match i with | 4 => (.cells z21 29 (0, 0)) | _ => (.cells z21 29 (0, 0))) (fun R i => match i with | 6 => (.cells (rowV (R 0)) 29 (0, 0)) | 7 => (.cells (rowV (R 1)) 29 (0, 0)) | _ => (.cells #[] 0 (0, 0))) (fun _ => 0) (TE b b w1 (XA [IsCn, IsCn])) (fun k => k = b) (by kernel_rfl) (by kernel_rfl) (by kernel_rfl) rfl (fun _ => rfl) (fun k e => by subst e; exact T0.2.1) (by simp) (by simp) (by simp) (fun R R' => ⟨fun _ => rfl, fun _ => rfl, fun _ => rfl, fun _ => rfl, fun _ => rfl, fun _ => rfl, fun _ => rfl, fun _ => rfl, trivial⟩) (by intro R R' i h; (try dsimp only); (repeat' split) <;> first | rfl | ((try rw [h 0 (by decide)]); (try rw [h 1 (by decide)]))) te_below ⟨T0, UU.out, XA.zero⟩ ?ops8 ?end8
 case ops8 =>
   refine ⟨?_, ?_, ?_, ?_, ?_, ?_, ?_, ?_, trivial⟩
   · refine er_q ?vn1 ?hn1 ?kn1 ?gn1 ?_
     case hn1 => exact rfl
     case vn1 => exact (fun R => .pointer (some ⟨b, 0, none⟩))
     case kn1 => exact (fun R => rfl)
     case gn1 => exact gd_none rfl
     intro R s w' hT hs hw ha
     go_simp
   · refine er_ev (m := 0) ?hn2 ?gn2 ?_
     case hn2 => exact rfl
     case gn2 => exact gd_none rfl
     intro R w' hT hw
     go_simp
     refine (t_some b b w' w' hT.1 (Upd.refl _ _)).mono ?_
     rintro e w2 ⟨c, hc, rfl, hT2, hU2⟩
     exact ⟨_, rfl, te_ev hT hT2 hU2 (hT.2.2.step rfl ⟨c, rfl, hc⟩)⟩
   · refine er_q ?vn3 ?hn3 ?kn3 ?gn3 ?_
     case hn3 => exact rfl
     case vn3 => exact (fun R => .pointer (some ⟨b, 0, none⟩))
     case kn3 => exact (fun R => rfl)
     case gn3 => exact gd_none rfl
     intro R s w' hT hs hw ha
     go_simp
   · refine er_ev (m := 1) ?hn4 ?gn4 ?_
     case hn4 => exact rfl
     case gn4 => exact gd_none rfl
     intro R w' hT hw
     go_simp
     refine (t_some b b w' w' hT.1 (Upd.refl _ _)).mono ?_
     rintro e w2 ⟨c, hc, rfl, hT2, hU2⟩
     exact ⟨_, rfl, te_ev hT hT2 hU2 (hT.2.2.step rfl ⟨c, rfl, hc⟩)⟩
   · refine er_al ?zn5 ?hn5 ?kn5 ?gn5 ?_
     case zn5 => exact (.cells z21 29 (0, 0))
     case hn5 => exact rfl
     case kn5 => exact rfl
     case gn5 => exact gd_none rfl
     intro ρ w'
     go_simp
     exact ⟨rfl, rfl⟩
   · refine er_al ?zn6 ?hn6 ?kn6 ?gn6 ?_
     case zn6 => exact (.cells z21 29 (0, 0))
     case hn6 => exact rfl
     case kn6 => exact rfl
     case gn6 => exact gd_none rfl
     intro ρ w'
     go_simp
     exact ⟨rfl, rfl⟩
   · refine er_st (j := 4) (Ty := ?Tn7) (p := ?pn7) (x := ?xn7) ?fn7 ?zn7 ?vn7 ?hn7 ?on7 ?kn7 ?ln7 ?gn7 ?en7 ?_
     case hn7 => exact rfl
     case on7 => exact rfl
     case fn7 => exact (fun R => (.cells (rowV (R 0)) 29 (0, 0)))
     case zn7 => exact (.cells z21 29 (0, 0))
     case vn7 => exact (fun R => (R 0))
     case kn7 => exact (fun R => rfl)
     case ln7 => exact rfl
     case gn7 => exact gd_none rfl
     case en7 =>
       intro R
       kernel_rfl
     intro R s ρ w g hT hs hp hx hg hz
     have hs' : 0 + 1 ≤ s := hs
     obtain ⟨c0, e0, hc0⟩ := hT.2.2.get 0 rfl hs'
     rw [e0] at hx ⊢
     exact ⟨store_rowN rfl hp hx hz iCone rfl (cnC_size c0) (by exact cnC_one c0), fun w1 hF => te_filled hT hF (Nat.le_trans UU.out.2.2.2.1 hg) (by have := T0.2.1; omega) (by have := T0.1; have := T0.2.1; omega)⟩
   · refine er_st (j := 5) (Ty := ?Tn8) (p := ?pn8) (x := ?xn8) ?fn8 ?zn8 ?vn8 ?hn8 ?on8 ?kn8 ?ln8 ?gn8 ?en8 ?_
     case hn8 => exact rfl
     case on8 => exact rfl
     case fn8 => exact (fun R => (.cells (rowV (R 1)) 29 (0, 0)))
     case zn8 => exact (.cells z21 29 (0, 0))
     case vn8 => exact (fun R => (R 1))
     case kn8 => exact (fun R => rfl)
     case ln8 => exact rfl
     case gn8 => exact gd_none rfl
     case en8 =>
       intro R
       kernel_rfl
     intro R s ρ w g hT hs hp hx hg hz
     have hs' : 1 + 1 ≤ s := hs
     obtain ⟨c1, e1, hc1⟩ := hT.2.2.get 1 rfl hs'
     rw [e1] at hx ⊢
     exact ⟨store_rowN rfl hp hx hz iCone rfl (cnC_size c1) (by exact cnC_one c1), fun w1 hF => te_filled hT hF (Nat.le_trans UU.out.2.2.2.1 hg) (by have := T0.2.1; omega) (by have := T0.1; have := T0.2.1; omega)⟩
 case end8 =>
  intro sI R G w9 hI
  have hS := hI.same
  have hTT := hI.holds
  have hz0 := UU.out.2.2.2.1
  have hs0 : 0 < sI := (hI.stage 1 (show 1 < 8 by decide) 0 rfl).1 (List.mem_range.2 (show 1 < 8 by decide))
  obtain ⟨c0, e0, hc0⟩ := hTT.2.2.get 0 rfl hs0
  have hs1 : 1 < sI := (hI.stage 3 (show 3 < 8 by decide) 1 rfl).1 (List.mem_range.2 (show 3 < 8 by decide))
  obtain ⟨c1, e1, hc1⟩ := hTT.2.2.get 1 rfl hs1
  replace P4 := P4.sameE hS P4_nb (by simp)
  replace P5 := P5.sameE hS P5_nb (by simp)
  replace P6 := P6.sameE hS P6_nb (by simp)
  have P10 : Blk w9 (G 4) 29 (rowV (R 0)) := (hI.fulls 6 (List.mem_range.2 (show 6 < 8 by decide)) 4 rfl).2.2
  have hmP10 := (hI.made 4 (List.mem_range.2 (show 4 < 8 by decide)) rfl).1
  have P10_lo : w1.heap.size ≤ G 4 := Nat.le_trans hz0 hmP10
  rw [e0] at P10
  have P10 : Blk w9 (G 4) 29 (cnC c0) := P10
  have P10_nb : G 4 ≠ b := by have := T0.2.1; omega
  have P11 : Blk w9 (G 5) 29 (rowV (R 1)) := (hI.fulls 7 (List.mem_range.2 (show 7 < 8 by decide)) 5 rfl).2.2
  have hmP11 := (hI.made 5 (List.mem_range.2 (show 5 < 8 by decide)) rfl).1
  have P11_lo : w1.heap.size ≤ G 5 := Nat.le_trans hz0 hmP11
  rw [e1] at P11
  have P11 : Blk w9 (G 5) 29 (cnC c1) := P11
  have P11_nb : G 5 ≠ b := by have := T0.2.1; omega
  have ng10_11 : G 4 ≠ G 5 := fun e => by have := hI.apart 4 (List.mem_range.2 (show 4 < 8 by decide)) 5 (List.mem_range.2 (show 5 < 8 by decide)) rfl rfl e; omega
  have ngP4_10 : g0 ≠ G 4 := by omega
  have ngP4_11 : g0 ≠ G 5 := by omega
  have ngP5_10 : g0 + 1 ≠ G 4 := by omega
  have ngP5_11 : g0 + 1 ≠ G 5 := by omega
  have ngP6_10 : g0 + 1 + 1 ≠ G 4 := by omega
  have ngP6_11 : g0 + 1 + 1 ≠ G 5 := by omega
  replace T0 := hTT.1
  replace UU := hide hTT.2.1
  clear hS hz0 hTT hI P4_lt P5_lt P6_lt
  generalize hF : putE _ _ _ _ _ _ _ = FF
  have hF2 : FF = { tmps := #[.agg Xa, .agg Xb, .agg Xs, .slice x len cap, .pointer (some ⟨g0, 0, none⟩), .pointer (some ⟨g0 + 1, 0, none⟩), .pointer (some ⟨g0 + 1 + 1, 0, none⟩), undef, .bool false, .pointer (some ⟨b, 0, none⟩), .pointer (some ⟨G 4, 0, none⟩), .pointer (some ⟨G 5, 0, none⟩), undef, undef, .slice x len cap, .pointer (some ⟨b, 0, none⟩), .pointer (some ⟨b, 0, none⟩), (R 0), .pointer (some ⟨b, 0, none⟩), (R 1), undef, undef, undef, undef, undef, undef, undef, undef, undef, undef, undef, undef, undef, undef, undef, undef, undef, undef, undef, undef, undef, undef, undef, undef, undef, undef, undef, undef, undef, undef, undef, undef, undef, undef, undef, undef, undef, undef, undef, undef, undef, undef, undef, undef, undef, undef, undef, undef, undef, undef, undef, undef, undef, undef, undef], defers := [] } := by subst hF; kernel_rfl
  clear hF
  subst hF2
  (try simp only [e0, e1])
  generalize G 4 = g10 at *
  generalize G 5 = g11 at *
  clear e0 e1
  have r0 : RawC (cnC c0) := Or.inl ⟨c0, hc0, rfl⟩
  have r1 : RawC (cnC c1) := Or.inl ⟨c1, hc1, rfl⟩
  obtain ⟨o0, L0, H0, ec0, rL0, rH0⟩ := cn_form2 hc0
  have cL := rL0.rc
  have cH := rH0.rc
  have sL0 := cL.size
  have oL0 := cL.one
  have sH0 := cH.size
  have oH0 := cH.one
  have fL0 := coneC_lo o0 sL0 sH0
  have fH0 := coneC_hi o0 sL0 sH0
  have fo0 : (coneC o0 L0 H0)[0]? = some (.bool o0) := by rw [coneC, Array.append_assoc, Array.getElem?_append_left (by simp)]; rfl
  have fO0 := cone_turn (o := o0) cL cH (!o0)
  have rO := rawC_of (!o0) rL0 rH0
  have rT := rawC_of false rH0 rL0
  rw [← ec0] at fL0 fH0 fo0 fO0
  have sC0 := cnC_size c0
  have oC0 := cnC_one c0
  have sC1 := cnC_size c1
  have oC1 := cnC_one c1
  obtain ⟨C0, hC0⟩ : ∃ C, cnC c0 = C := ⟨_, rfl⟩
  obtain ⟨C1, hC1⟩ : ∃ C, cnC c1 = C := ⟨_, rfl⟩
  rw [hC0] at P10 sC0 oC0 fL0 fH0 fo0 fO0 r0
  rw [hC1] at P11 sC1 oC1 r1
  try simp only [hC0, hC1]
  obtain ⟨O0, hO0⟩ : ∃ C, coneC (!o0) L0 H0 = C := ⟨_, rfl⟩
  rw [hO0] at fO0 rO
  have sO0 := (raw_size rO).1
  have oO0 := (raw_size rO).2
  obtain ⟨T1, hT1⟩ : ∃ C, coneC false H0 L0 = C := ⟨_, rfl⟩
  rw [hT1] at rT
  have sT1 := (raw_size rT).1
  have oT1 := (raw_size rT).2
  have k1 := hide (kA.out r1 r0 rs)
  have k2 := hide (kA.out rO r1 rs)
  have k3 := hide (kA.out rT r0 rL0)
  have k4 := hide (kA.out r0 r0 rH0)
  clear hC0 hC1 hO0 ec0 hc0 hc1 rO rT ra rb rs rL0 rH0
  go_upto_region 3 with fail
  have P4_lt := P4.lt
  have P5_lt := P5.lt
  have P6_lt := P6.lt
  have P10_lt := P10.lt
  have P11_lt := P11.lt
  refine wp_evs [.q, .al, .st 1] [0, 0, 0] (fun R => [.agg C0, undef, undef]) (fun _ => (.cells z21 29 (0, 0))) (fun R _ => (.cells C0 29 (0, 0))) (fun _ => 0) (TE b b w1 (XA [])) (fun k => k = b) (by kernel_rfl) (by kernel_rfl) (by kernel_rfl) rfl (fun _ => rfl) (fun k e => by subst e; exact T0.2.1) (by simp) (by simp) (by simp) (fun R R' => ⟨fun _ => rfl, fun _ => rfl, fun _ => rfl, trivial⟩) (fun _ _ _ _ => rfl) te_below ⟨T0, UU.out, XA.zero⟩ ?ops12 ?end12
  case ops12 =>
    refine ⟨?_, ?_, ?_, trivial⟩
    · refine er_q ?vn10 ?hn10 ?kn10 ?gn10 ?_
      case hn10 => exact rfl
      case vn10 => exact (fun R => .agg C0)
      case kn10 => exact (fun R => rfl)
      case gn10 => exact gd_none rfl
      intro R s w' hT hs hw ha
      have L := ld_all (P10.sameE hw P10_nb (by simp)) uCone rfl iCone sC0
      generalize hA : putE _ _ _ _ _ _ _ = AA
      refine q_load rfl ?_ L
      subst hA
      kernel_rfl
    · refine er_al ?zn11 ?hn11 ?kn11 ?gn11 ?_
      case zn11 => exact (.cells z21 29 (0, 0))
      case hn11 => exact rfl
      case kn11 => exact rfl
      case gn11 => exact gd_none rfl
      intro ρ w'
      go_simp
      exact ⟨rfl, rfl⟩
    · refine er_st (j := 1) (Ty := ?Tn12) (p := ?pn12) (x := ?xn12) ?fn12 ?zn12 ?vn12 ?hn12 ?on12 ?kn12 ?ln12 ?gn12 ?en12 ?_
      case hn12 => exact rfl
      case on12 => exact rfl
      case fn12 => exact (fun R => (.cells C0 29 (0, 0)))
      case zn12 => exact (.cells z21 29 (0, 0))
      case vn12 => exact (fun R => .agg C0)
      case kn12 => exact (fun R => rfl)
      case ln12 => exact rfl
      case gn12 => exact gd_none rfl
      case en12 =>
        intro R
        kernel_rfl
      intro R s ρ w g hT hs hp hx hg hz
      exact ⟨store_row rfl hp hx hz iCone (sC0) (oC0), fun w1 hF => te_filled hT hF (Nat.le_trans UU.out.2.2.2.1 hg) (by have := T0.2.1; omega) (by have := T0.1; have := T0.2.1; omega)⟩
  case end12 =>
   intro sI R G w13 hI
   have hS := hI.same
   have hTT := hI.holds
   have hz0 := UU.out.2.2.2.1
   replace P4 := P4.sameE hS P4_nb (by simp)
   replace P5 := P5.sameE hS P5_nb (by simp)
   replace P6 := P6.sameE hS P6_nb (by simp)
   replace P10 := P10.sameE hS P10_nb (by simp)
   replace P11 := P11.sameE hS P11_nb (by simp)
   have P12 : Blk w13 (G 1) 29 C0 := (hI.fulls 2 (List.mem_range.2 (show 2 < 3 by decide)) 1 rfl).2.2
   have hmP12 := (hI.made 1 (List.mem_range.2 (show 1 < 3 by decide)) rfl).1
   have P12_lo : w1.heap.size ≤ G 1 := Nat.le_trans hz0 hmP12
   have P12_nb : G 1 ≠ b := by have := T0.2.1; omega
   have ngP4_12 : g0 ≠ G 1 := by omega
   have ngP5_12 : g0 + 1 ≠ G 1 := by omega
   have ngP6_12 : g0 + 1 + 1 ≠ G 1 := by omega
   have ngP10_12 : g10 ≠ G 1 := by omega
   have ngP11_12 : g11 ≠ G 1 := by omega
   replace T0 := hTT.1
   replace UU := hide hTT.2.1
   clear hS hz0 hTT hI P4_lt P5_lt P6_lt P10_lt P11_lt
   generalize hF : putE _ _ _ _ _ _ _ = FF
   have hF2 : FF = { tmps := #[.agg Xa, .agg Xb, .agg Xs, .slice x len cap, .pointer (some ⟨g0, 0, none⟩), .pointer (some ⟨g0 + 1, 0, none⟩), .pointer (some ⟨g0 + 1 + 1, 0, none⟩), undef, .bool false, .pointer (some ⟨b, 0, none⟩), .pointer (some ⟨g10, 0, none⟩), .pointer (some ⟨g11, 0, none⟩), .pointer (some ⟨G 1, 0, none⟩), undef, .slice x len cap, .pointer (some ⟨b, 0, none⟩), .pointer (some ⟨b, 0, none⟩), .agg C0, .pointer (some ⟨b, 0, none⟩), .agg C1, .agg C0, undef, undef, undef, undef, undef, undef, undef, undef, undef, undef, undef, undef, undef, undef, undef, undef, undef, undef, undef, undef, undef, undef, undef, undef, undef, undef, undef, undef, undef, undef, undef, undef, undef, undef, undef, undef, undef, undef, undef, undef, undef, undef, undef, undef, undef, undef, undef, undef, undef, undef, undef, undef, undef, undef], defers := [] } := by subst hF; kernel_rfl
   clear hF
   subst hF2
   generalize G 1 = g12 at *
   go_upto_region 4 with fail
   have P4_lt := P4.lt
   have P5_lt := P5.lt
   have P6_lt := P6.lt
   have P10_lt := P10.lt
   have P11_lt := P11.lt
   have P12_lt := P12.lt
   refine wp_evs [.q, .q, .q, .q, .so 0] [0, 0, 0, 0, 0] (fun R => [.pointer (some ⟨g12, 0, none⟩), .bool o0, .bool (!o0), .pointer (some ⟨g12, 0, none⟩), undef]) (fun _ => (.cells #[] 0 (0, 0))) (fun R _ => (.cells O0 29 (0, 0))) (fun _ => g12) (TE b b w1 (XA [])) (fun k => k = b) (by kernel_rfl) (by kernel_rfl) (by kernel_rfl) rfl (fun _ => rfl) (fun k e => by subst e; exact T0.2.1) (by intro c hc; simp at hc; (try subst hc); (try simp only); (intro e; omega)) (by intro c hc; simp at hc; (try subst hc); (try simp only); omega) (by intro c c' h1 h2 _; simp at h1 h2; omega) (fun R R' => ⟨fun _ => rfl, fun _ => rfl, fun _ => rfl, fun _ => rfl, fun _ => rfl, trivial⟩) (fun _ _ _ _ => rfl) te_below ⟨T0, UU.out, XA.zero⟩ ?ops18 ?end18
   case ops18 =>
     refine ⟨?_, ?_, ?_, ?_, ?_, trivial⟩
     · refine er_q ?vn14 ?hn14 ?kn14 ?gn14 ?_
       case hn14 => exact rfl
       case vn14 => exact (fun R => .pointer (some ⟨g12, 0, none⟩))
       case kn14 => exact (fun R => rfl)
       case gn14 => exact gd_none rfl
       intro R s w' hT hs hw ha
       go_simp
     · refine er_q ?vn15 ?hn15 ?kn15 ?gn15 ?_
       case hn15 => exact rfl
       case vn15 => exact (fun R => .bool o0)
       case kn15 => exact (fun R => rfl)
       case gn15 => exact gd_none rfl
       intro R s w' hT hs hw ha
       have cc := ((show Blk w' g12 _ C0 from (ha 4 0 rfl (by kernel_rfl)).trans P12).cell 0).trans (fo0)
       go_simp
     · refine er_q ?vn16 ?hn16 ?kn16 ?gn16 ?_
       case hn16 => exact rfl
       case vn16 => exact (fun R => .bool (!o0))
       case kn16 => exact (fun R => rfl)
       case gn16 => exact gd_none rfl
       intro R s w' hT hs hw ha
       go_simp
     · refine er_q ?vn17 ?hn17 ?kn17 ?gn17 ?_
       case hn17 => exact rfl
       case vn17 => exact (fun R => .pointer (some ⟨g12, 0, none⟩))
       case kn17 => exact (fun R => rfl)
       case gn17 => exact gd_none rfl
       intro R s w' hT hs hw ha
       go_simp
     · refine er_so (c := 0) (Ty := ?Tn18) (p := ?pn18) (x := ?xn18) g12 ?fn18 ?un18 ?vn18 ?hn18 ?on18 ?kn18 ?ln18 ?gn18 ?dn18 ?en18 ?_
       case hn18 => exact rfl
       case on18 => exact rfl
       case fn18 => exact (fun R => (.cells O0 29 (0, 0)))
       case un18 => exact (fun R => .pointer (some ⟨g12, 0, none⟩))
       case vn18 => exact (fun R => .bool (!o0))
       case kn18 => exact (fun R => rfl)
       case ln18 => exact rfl
       case gn18 => exact gd_none rfl
       case dn18 =>
         intro R
         kernel_rfl
       case en18 =>
         intro R
         kernel_rfl
       intro R s ρ w hT hs hp hx hz
       have hB := (show Blk w g12 _ C0 from hz.trans P12)
       have hc := (hB.cell 0).trans (fo0)
       have hf := hB.frozen 0
       refine ⟨store_at (g := g12) (Ty := 4) rfl hp hx (hz.trans P12) (fO0) ?_, fun w1 hF => te_filled hT hF P12_lo P12_nb (by have := P12_lo; have := hBw; omega)⟩
       go_simp
   case end18 =>
    intro sI R G w19 hI
    have hS := hI.same
    have hTT := hI.holds
    have hz0 := UU.out.2.2.2.1
    replace P4 := P4.sameE hS P4_nb (by intro c hc; simp at hc; (try subst hc); (try simp only); omega)
    replace P5 := P5.sameE hS P5_nb (by intro c hc; simp at hc; (try subst hc); (try simp only); omega)
    replace P6 := P6.sameE hS P6_nb (by intro c hc; simp at hc; (try subst hc); (try simp only); omega)
    replace P10 := P10.sameE hS P10_nb (by intro c hc; simp at hc; (try subst hc); (try simp only); omega)
    replace P11 := P11.sameE hS P11_nb (by intro c hc; simp at hc; (try subst hc); (try simp only); omega)
    replace P12 : Blk w19 g12 29 O0 := hI.olds' 4 (List.mem_range.2 (show 4 < 5 by decide)) 0 rfl
    replace T0 := hTT.1
    replace UU := hide hTT.2.1
    clear hS hz0 hTT hI P4_lt P5_lt P6_lt P10_lt P11_lt P12_lt
    generalize hF : putE _ _ _ _ _ _ _ = FF
    have hF2 : FF = { tmps := #[.agg Xa, .agg Xb, .agg Xs, .slice x len cap, .pointer (some ⟨g0, 0, none⟩), .pointer (some ⟨g0 + 1, 0, none⟩), .pointer (some ⟨g0 + 1 + 1, 0, none⟩), undef, .bool false, .pointer (some ⟨b, 0, none⟩), .pointer (some ⟨g10, 0, none⟩), .pointer (some ⟨g11, 0, none⟩), .pointer (some ⟨g12, 0, none⟩), undef, .slice x len cap, .pointer (some ⟨b, 0, none⟩), .pointer (some ⟨b, 0, none⟩), .agg C0, .pointer (some ⟨b, 0, none⟩), .agg C1, .agg C0, .pointer (some ⟨g12, 0, none⟩), .bool o0, .bool (!o0), .pointer (some ⟨g12, 0, none⟩), undef, undef, undef, undef, undef, undef, undef, undef, undef, undef, undef, undef, undef, undef, undef, undef, undef, undef, undef, undef, undef, undef, undef, undef, undef, undef, undef, undef, undef, undef, undef, undef, undef, undef, undef, undef, undef, undef, undef, undef, undef, undef, undef, undef, undef, undef, undef, undef, undef, undef], defers := [] } := by subst hF; kernel_rfl
    clear hF
    subst hF2
    go_upto_region 5 with fail
    have P4_lt := P4.lt
    have P5_lt := P5.lt
    have P6_lt := P6.lt
    have P10_lt := P10.lt
    have P11_lt := P11.lt
    have P12_lt := P12.lt
    refine wp_evs [.q, .q, .q, .q, .q, .al, .st 5] [0, 0, 0, 0, 0, 0, 0] (fun R => [.pointer (some ⟨g10, 11, none⟩), .agg H0, .pointer (some ⟨g10, 1, none⟩), .agg L0, .agg T1, undef, undef]) (fun _ => (.cells z21 29 (0, 0))) (fun R _ => (.cells T1 29 (0, 0))) (fun _ => 0) (TE b b w1 (XA [])) (fun k => k = b) (by kernel_rfl) (by kernel_rfl) (by kernel_rfl) rfl (fun _ => rfl) (fun k e => by subst e; exact T0.2.1) (by simp) (by simp) (by simp) (fun R R' => ⟨fun _ => rfl, fun _ => rfl, fun _ => rfl, fun _ => rfl, fun _ => rfl, fun _ => rfl, fun _ => rfl, trivial⟩) (fun _ _ _ _ => rfl) te_below ⟨T0, UU.out, XA.zero⟩ ?ops26 ?end26
    case ops26 =>
      refine ⟨?_, ?_, ?_, ?_, ?_, ?_, ?_, trivial⟩
      · refine er_q ?vn20 ?hn20 ?kn20 ?gn20 ?_
        case hn20 => exact rfl
        case vn20 => exact (fun R => .pointer (some ⟨g10, 11, none⟩))
        case kn20 => exact (fun R => rfl)
        case gn20 => exact gd_none rfl
        intro R s w' hT hs hw ha
        go_simp
      · refine er_q ?vn21 ?hn21 ?kn21 ?gn21 ?_
        case hn21 => exact rfl
        case vn21 => exact (fun R => .agg H0)
        case kn21 => exact (fun R => rfl)
        case gn21 => exact gd_none rfl
        intro R s w' hT hs hw ha
        have L := run_load_part (P10.sameE hw P10_nb (by simp)) _ _ uRat rfl 11 10 iRat (by rw [sC0]; first | decide | omega) _ (fH0)
        generalize hA : putE _ _ _ _ _ _ _ = AA
        refine q_load rfl ?_ L
        subst hA
        kernel_rfl
      · refine er_q ?vn22 ?hn22 ?kn22 ?gn22 ?_
        case hn22 => exact rfl
        case vn22 => exact (fun R => .pointer (some ⟨g10, 1, none⟩))
        case kn22 => exact (fun R => rfl)
        case gn22 => exact gd_none rfl
        intro R s w' hT hs hw ha
        go_simp
      · refine er_q ?vn23 ?hn23 ?kn23 ?gn23 ?_
        case hn23 => exact rfl
        case vn23 => exact (fun R => .agg L0)
        case kn23 => exact (fun R => rfl)
        case gn23 => exact gd_none rfl
        intro R s w' hT hs hw ha
        have L := run_load_part (P10.sameE hw P10_nb (by simp)) _ _ uRat rfl 1 10 iRat (by rw [sC0]; first | decide | omega) _ (fL0)
        generalize hA : putE _ _ _ _ _ _ _ = AA
        refine q_load rfl ?_ L
        subst hA
        kernel_rfl
      · refine er_q ?vn24 ?hn24 ?kn24 ?gn24 ?_
        case hn24 => exact rfl
        case vn24 => exact (fun R => .agg T1)
        case kn24 => exact (fun R => rfl)
        case gn24 => exact gd_none rfl
        intro R s w' hT hs hw ha
        rw [← hT1]
        generalize hA : putE _ _ _ _ _ _ _ = AA
        refine build_cone cH cL rfl ?_ ?_
        · subst hA; kernel_rfl
        · subst hA; kernel_rfl
      · refine er_al ?zn25 ?hn25 ?kn25 ?gn25 ?_
        case zn25 => exact (.cells z21 29 (0, 0))
        case hn25 => exact rfl
        case kn25 => exact rfl
        case gn25 => exact gd_none rfl
        intro ρ w'
        go_simp
        exact ⟨rfl, rfl⟩
      · refine er_st (j := 5) (Ty := ?Tn26) (p := ?pn26) (x := ?xn26) ?fn26 ?zn26 ?vn26 ?hn26 ?on26 ?kn26 ?ln26 ?gn26 ?en26 ?_
        case hn26 => exact rfl
        case on26 => exact rfl
        case fn26 => exact (fun R => (.cells T1 29 (0, 0)))
        case zn26 => exact (.cells z21 29 (0, 0))
        case vn26 => exact (fun R => .agg T1)
        case kn26 => exact (fun R => rfl)
        case ln26 => exact rfl
        case gn26 => exact gd_none rfl
        case en26 =>
          intro R
          kernel_rfl
        intro R s ρ w g hT hs hp hx hg hz
        exact ⟨store_row rfl hp hx hz iCone (sT1) (oT1), fun w1 hF => te_filled hT hF (Nat.le_trans UU.out.2.2.2.1 hg) (by have := T0.2.1; omega) (by have := T0.1; have := T0.2.1; omega)⟩
    case end26 =>
     intro sI R G w27 hI
     have hS := hI.same
     have hTT := hI.holds
     have hz0 := UU.out.2.2.2.1
     replace P4 := P4.sameE hS P4_nb (by simp)
     replace P5 := P5.sameE hS P5_nb (by simp)
     replace P6 := P6.sameE hS P6_nb (by simp)
     replace P10 := P10.sameE hS P10_nb (by simp)
     replace P11 := P11.sameE hS P11_nb (by simp)
     replace P12 := P12.sameE hS P12_nb (by simp)
     have P13 : Blk w27 (G 5) 29 T1 := (hI.fulls 6 (List.mem_range.2 (show 6 < 7 by decide)) 5 rfl).2.2
     have hmP13 := (hI.made 5 (List.mem_range.2 (show 5 < 7 by decide)) rfl).1
     have P13_lo : w1.heap.size ≤ G 5 := Nat.le_trans hz0 hmP13
     have P13_nb : G 5 ≠ b := by have := T0.2.1; omega
     have ngP4_13 : g0 ≠ G 5 := by omega
     have ngP5_13 : g0 + 1 ≠ G 5 := by omega
     have ngP6_13 : g0 + 1 + 1 ≠ G 5 := by omega
     have ngP10_13 : g10 ≠ G 5 := by omega
     have ngP11_13 : g11 ≠ G 5 := by omega
     have ngP12_13 : g12 ≠ G 5 := by omega
     replace T0 := hTT.1
     replace UU := hide hTT.2.1
     clear hS hz0 hTT hI P4_lt P5_lt P6_lt P10_lt P11_lt P12_lt
     generalize hF : putE _ _ _ _ _ _ _ = FF
     have hF2 : FF = { tmps := #[.agg Xa, .agg Xb, .agg Xs, .slice x len cap, .pointer (some ⟨g0, 0, none⟩), .pointer (some ⟨g0 + 1, 0, none⟩), .pointer (some ⟨g0 + 1 + 1, 0, none⟩), undef, .bool false, .pointer (some ⟨b, 0, none⟩), .pointer (some ⟨g10, 0, none⟩), .pointer (some ⟨g11, 0, none⟩), .pointer (some ⟨g12, 0, none⟩), .pointer (some ⟨G 5, 0, none⟩), .slice x len cap, .pointer (some ⟨b, 0, none⟩), .pointer (some ⟨b, 0, none⟩), .agg C0, .pointer (some ⟨b, 0, none⟩), .agg C1, .agg C0, .pointer (some ⟨g12, 0, none⟩), .bool o0, .bool (!o0), .pointer (some ⟨g12, 0, none⟩), .pointer (some ⟨g10, 11, none⟩), .agg H0, .pointer (some ⟨g10, 1, none⟩), .agg L0, .agg T1, undef, undef, undef, undef, undef, undef, undef, undef, undef, undef, undef, undef, undef, undef, undef, undef, undef, undef, undef, undef, undef, undef, undef, undef, undef, undef, undef, undef, undef, undef, undef, undef, undef, undef, undef, undef, undef, undef, undef, undef, undef, undef, undef, undef, undef], defers := [] } := by subst hF; kernel_rfl
     clear hF
     subst hF2
     generalize G 5 = g13 at *
     clear hT1 fO0
     go_upto_region 6 with fail
     have P4_lt := P4.lt
     have P5_lt := P5.lt
     have P6_lt := P6.lt
     have P10_lt := P10.lt
     have P11_lt := P11.lt
     have P12_lt := P12.lt
     have P13_lt := P13.lt
     refine wp_ev [.q, .q, .q, .q, .q, .q, .q, .q, .q, .q, .q, .q, .q, .q, .q, .q, .ev 0, .q, .q, .q, .q, .q, .q, .q, .q, .q, .q, .q, .q, .q, .q, .q, .q, .q, .q, .q, .q, .q, .q, .q, .q, .q, .q, .q, .q, .q] [0, 0, 0, 0, 0, 0, 0, 0, 0, 0, 0, 0, 0, 0, 0, 0, 0, 1, 0, 0, 0, 0, 0, 0, 0, 0, 0, 0, 0, 0, 0, 0, 0, 0, 0, 0, 0, 0, 0, 0, 0, 0, 0, 0, 0, 0] (fun R => [.bool true, .bool true, .agg stC, .agg stC, .bool true, .bool true, .bool true, .agg Xa, .agg Xb, .agg Xs, .bool true, .bool true, .bool true, .agg C0, .agg C1, .pointer (some ⟨b, 0, none⟩), undef, .bool true, .bool true, .bool true, .agg C1, .agg C0, .agg Xs, .bool true, .bool true, .bool true, .agg O0, .agg C1, .agg Xs, .bool true, .bool true, .bool true, .agg T1, .agg C0, .pointer (some ⟨g10, 1, none⟩), .agg L0, .bool true, .bool true, .bool true, .agg C0, .agg C0, .pointer (some ⟨g10, 11, none⟩), .agg H0, .bool true, .bool true, .bool true]) (fun _ => (.cells #[] 0 (0, 0))) (fun R _ => (.cells #[] 0 (0, 0))) (fun _ => 0) (TE b b w1 (XA [IsFr])) (fun k => k = b) (by kernel_rfl) (by kernel_rfl) (by kernel_rfl) (by kernel_rfl) rfl (fun _ => rfl) (fun k e => by subst e; exact T0.2.1) (by simp) (by simp) (by simp) (fun R R' => ⟨fun _ => rfl, fun _ => rfl, fun _ => rfl, fun _ => rfl, fun _ => rfl, fun _ => rfl, fun _ => rfl, fun _ => rfl, fun _ => rfl, fun _ => rfl, fun _ => rfl, fun _ => rfl, fun _ => rfl, fun _ => rfl, fun _ => rfl, fun _ => rfl, fun _ => rfl, fun _ => rfl, fun _ => rfl, fun _ => rfl, fun _ => rfl, fun _ => rfl, fun _ => rfl, fun _ => rfl, fun _ => rfl, fun _ => rfl, fun _ => rfl, fun _ => rfl, fun _ => rfl, fun _ => rfl, fun _ => rfl, fun _ => rfl, fun _ => rfl, fun _ => rfl, fun _ => rfl, fun _ => rfl, fun _ => rfl, fun _ => rfl, fun _ => rfl, fun _ => rfl, fun _ => rfl, fun _ => rfl, fun _ => rfl, fun _ => rfl, fun _ => rfl, fun _ => rfl, trivial⟩) (fun _ _ _ _ => rfl) te_below ⟨T0.ext (ext_drew _), UU.out.drew, XA.zero⟩ ?ops73 ?end73
     case ops73 =>
       refine ⟨?_, ?_, ?_, ?_, ?_, ?_, ?_, ?_, ?_, ?_, ?_, ?_, ?_, ?_, ?_, ?_, ?_, ?_, ?_, ?_, ?_, ?_, ?_, ?_, ?_, ?_, ?_, ?_, ?_, ?_, ?_, ?_, ?_, ?_, ?_, ?_, ?_, ?_, ?_, ?_, ?_, ?_, ?_, ?_, ?_, ?_, trivial⟩
       · refine er_q ?vn28 ?hn28 ?kn28 ?gn28 ?_
         case hn28 => exact rfl
         case vn28 => exact (fun R => .bool true)
         case kn28 => exact (fun R => rfl)
         case gn28 => exact gd_none rfl
         intro R s w' hT hs hw ha
         go_simp
         exact kK.out w'
       · refine er_q ?vn29 ?hn29 ?kn29 ?gn29 ?_
         case hn29 => exact rfl
         case vn29 => exact (fun R => .bool true)
         case kn29 => exact (fun R => rfl)
         case gn29 => exact gd_none rfl
         intro R s w' hT hs hw ha
         go_simp
       · refine er_q ?vn30 ?hn30 ?kn30 ?gn30 ?_
         case hn30 => exact rfl
         case vn30 => exact (fun R => .agg stC)
         case kn30 => exact (fun R => rfl)
         case gn30 => (refine gd_some rfl ?_; intro R; kernel_rfl)
         intro R s w' hT hs hw ha
         go_simp
         exact kS.out w'
       · refine er_q ?vn31 ?hn31 ?kn31 ?gn31 ?_
         case hn31 => exact rfl
         case vn31 => exact (fun R => .agg stC)
         case kn31 => exact (fun R => rfl)
         case gn31 => (refine gd_some rfl ?_; intro R; kernel_rfl)
         intro R s w' hT hs hw ha
         go_simp
         exact kT.out w'
       · refine er_q ?vn32 ?hn32 ?kn32 ?gn32 ?_
         case hn32 => exact rfl
         case vn32 => exact (fun R => .bool true)
         case kn32 => exact (fun R => rfl)
         case gn32 => (refine gd_some rfl ?_; intro R; kernel_rfl)
         intro R s w' hT hs hw ha
         have L := qS.out w'
         generalize hA : putE _ _ _ _ _ _ _ = AA
         refine q_bin rfl ?_ ?_ (eq_agg _ _ (by kernel_rfl) _ _ _ _ w') L
         · subst hA; kernel_rfl
         · subst hA; kernel_rfl
       · refine er_q ?vn33 ?hn33 ?kn33 ?gn33 ?_
         case hn33 => exact rfl
         case vn33 => exact (fun R => .bool true)
         case kn33 => exact (fun R => rfl)
         case gn33 => exact gd_none rfl
         intro R s w' hT hs hw ha
         go_simp
       · refine er_q ?vn34 ?hn34 ?kn34 ?gn34 ?_
         case hn34 => exact rfl
         case vn34 => exact (fun R => .bool true)
         case kn34 => exact (fun R => rfl)
         case gn34 => exact gd_none rfl
         intro R s w' hT hs hw ha
         go_simp
       · refine er_q ?vn35 ?hn35 ?kn35 ?gn35 ?_
         case hn35 => exact rfl
         case vn35 => exact (fun R => .agg Xa)
         case kn35 => exact (fun R => rfl)
         case gn35 => (refine gd_some rfl ?_; intro R; kernel_rfl)
         intro R s w' hT hs hw ha
         have L := ld_all (P4.sameE hw P4_nb (by simp)) uCone rfl iCone sXa
         generalize hA : putE _ _ _ _ _ _ _ = AA
         refine q_load rfl ?_ L
         subst hA
         kernel_rfl
       · refine er_q ?vn36 ?hn36 ?kn36 ?gn36 ?_
         case hn36 => exact rfl
         case vn36 => exact (fun R => .agg Xb)
         case kn36 => exact (fun R => rfl)
         case gn36 => (refine gd_some rfl ?_; intro R; kernel_rfl)
         intro R s w' hT hs hw ha
         have L := ld_all (P5.sameE hw P5_nb (by simp)) uCone rfl iCone sXb
         generalize hA : putE _ _ _ _ _ _ _ = AA
         refine q_load rfl ?_ L
         subst hA
         kernel_rfl
       · refine er_q ?vn37 ?hn37 ?kn37 ?gn37 ?_
         case hn37 => exact rfl
         case vn37 => exact (fun R => .agg Xs)
         case kn37 => exact (fun R => rfl)
         case gn37 => (refine gd_some rfl ?_; intro R; kernel_rfl)
         intro R s w' hT hs hw ha
         have L := ld_all (P6.sameE hw P6_nb (by simp)) uRat rfl iRat sXs
         generalize hA : putE _ _ _ _ _ _ _ = AA
         refine q_load rfl ?_ L
         subst hA
         kernel_rfl
       · refine er_q ?vn38 ?hn38 ?kn38 ?gn38 ?_
         case hn38 => exact rfl
         case vn38 => exact (fun R => .bool true)
         case kn38 => exact (fun R => rfl)
         case gn38 => (refine gd_some rfl ?_; intro R; kernel_rfl)
         intro R s w' hT hs hw ha
         go_simp
         exact k0.out w'
       · refine er_q ?vn39 ?hn39 ?kn39 ?gn39 ?_
         case hn39 => exact rfl
         case vn39 => exact (fun R => .bool true)
         case kn39 => exact (fun R => rfl)
         case gn39 => exact gd_none rfl
         intro R s w' hT hs hw ha
         go_simp
       · refine er_q ?vn40 ?hn40 ?kn40 ?gn40 ?_
         case hn40 => exact rfl
         case vn40 => exact (fun R => .bool true)
         case kn40 => exact (fun R => rfl)
         case gn40 => exact gd_none rfl
         intro R s w' hT hs hw ha
         go_simp
       · refine er_q ?vn41 ?hn41 ?kn41 ?gn41 ?_
         case hn41 => exact rfl
         case vn41 => exact (fun R => .agg C0)
         case kn41 => exact (fun R => rfl)
         case gn41 => (refine gd_some rfl ?_; intro R; kernel_rfl)
         intro R s w' hT hs hw ha
         have L := ld_all (P10.sameE hw P10_nb (by simp)) uCone rfl iCone sC0
         generalize hA : putE _ _ _ _ _ _ _ = AA
         refine q_load rfl ?_ L
         subst hA
         kernel_rfl
       · refine er_q ?vn42 ?hn42 ?kn42 ?gn42 ?_
         case hn42 => exact rfl
         case vn42 => exact (fun R => .agg C1)
         case kn42 => exact (fun R => rfl)
         case gn42 => (refine gd_some rfl ?_; intro R; kernel_rfl)
         intro R s w' hT hs hw ha
         have L := ld_all (P11.sameE hw P11_nb (by simp)) uCone rfl iCone sC1
         generalize hA : putE _ _ _ _ _ _ _ = AA
         refine q_load rfl ?_ L
         subst hA
         kernel_rfl
       · refine er_q ?vn43 ?hn43 ?kn43 ?gn43 ?_
         case hn43 => exact rfl
         case vn43 => exact (fun R => .pointer (some ⟨b, 0, none⟩))
         case kn43 => exact (fun R => rfl)
         case gn43 => (refine gd_some rfl ?_; intro R; kernel_rfl)
         intro R s w' hT hs hw ha
         go_simp
       · refine er_ev (m := 0) ?hn44 ?gn44 ?_
         case hn44 => exact rfl
         case gn44 => (refine gd_some rfl ?_; intro R; kernel_rfl)
         intro R w' hT hw
         go_simp
         refine (t_ratio b b w' w' hT.1 (Upd.refl _ _)).mono ?_
         rintro e w2 ⟨n, d, rfl, hF, hT2, hU2⟩
         exact ⟨_, rfl, te_ev hT hT2 hU2 (hT.2.2.step rfl ⟨n, d, rfl, hF⟩)⟩
       · refine er_q ?vn45 ?hn45 ?kn45 ?gn45 ?_
         case hn45 => exact rfl
         case vn45 => exact (fun R => .bool true)
         case kn45 => exact (fun R => rfl)
         case gn45 => (refine gd_some rfl ?_; intro R; kernel_rfl)
         intro R s w' hT hs hw ha
         have hs' : 1 ≤ s := hs
         obtain ⟨n0, d0, e0, hF0⟩ := hT.2.2.get 0 rfl (by omega)
         go_simp
         exact kA.out r0 r1 (Or.inl ⟨(n0, d0), hF0, rfl⟩) w'
       · refine er_q ?vn46 ?hn46 ?kn46 ?gn46 ?_
         case hn46 => exact rfl
         case vn46 => exact (fun R => .bool true)
         case kn46 => exact (fun R => rfl)
         case gn46 => exact gd_none rfl
         intro R s w' hT hs hw ha
         go_simp
       · refine er_q ?vn47 ?hn47 ?kn47 ?gn47 ?_
         case hn47 => exact rfl
         case vn47 => exact (fun R => .bool true)
         case kn47 => exact (fun R => rfl)
         case gn47 => exact gd_none rfl
         intro R s w' hT hs hw ha
         go_simp
       · refine er_q ?vn48 ?hn48 ?kn48 ?gn48 ?_
         case hn48 => exact rfl
         case vn48 => exact (fun R => .agg C1)
         case kn48 => exact (fun R => rfl)
         case gn48 => (refine gd_some rfl ?_; intro R; kernel_rfl)
         intro R s w' hT hs hw ha
         have L := ld_all (P11.sameE hw P11_nb (by simp)) uCone rfl iCone sC1
         generalize hA : putE _ _ _ _ _ _ _ = AA
         refine q_load rfl ?_ L
         subst hA
         kernel_rfl
       · refine er_q ?vn49 ?hn49 ?kn49 ?gn49 ?_
         case hn49 => exact rfl
         case vn49 => exact (fun R => .agg C0)
         case kn49 => exact (fun R => rfl)
         case gn49 => (refine gd_some rfl ?_; intro R; kernel_rfl)
         intro R s w' hT hs hw ha
         have L := ld_all (P10.sameE hw P10_nb (by simp)) uCone rfl iCone sC0
         generalize hA : putE _ _ _ _ _ _ _ = AA
         refine q_load rfl ?_ L
         subst hA
         kernel_rfl
       · refine er_q ?vn50 ?hn50 ?kn50 ?gn50 ?_
         case hn50 => exact rfl
         case vn50 => exact (fun R => .agg Xs)
         case kn50 => exact (fun R => rfl)
         case gn50 => (refine gd_some rfl ?_; intro R; kernel_rfl)
         intro R s w' hT hs hw ha
         have L := ld_all (P6.sameE hw P6_nb (by simp)) uRat rfl iRat sXs
         generalize hA : putE _ _ _ _ _ _ _ = AA
         refine q_load rfl ?_ L
         subst hA
         kernel_rfl
       · refine er_q ?vn51 ?hn51 ?kn51 ?gn51 ?_
         case hn51 => exact rfl
         case vn51 => exact (fun R => .bool true)
         case kn51 => exact (fun R => rfl)
         case gn51 => (refine gd_some rfl ?_; intro R; kernel_rfl)
         intro R s w' hT hs hw ha
         go_simp
         exact k1.out w'
       · refine er_q ?vn52 ?hn52 ?kn52 ?gn52 ?_
         case hn52 => exact rfl
         case vn52 => exact (fun R => .bool true)
         case kn52 => exact (fun R => rfl)
         case gn52 => exact gd_none rfl
         intro R s w' hT hs hw ha
         go_simp
       · refine er_q ?vn53 ?hn53 ?kn53 ?gn53 ?_
         case hn53 => exact rfl
         case vn53 => exact (fun R => .bool true)
         case kn53 => exact (fun R => rfl)
         case gn53 => exact gd_none rfl
         intro R s w' hT hs hw ha
         go_simp
       · refine er_q ?vn54 ?hn54 ?kn54 ?gn54 ?_
         case hn54 => exact rfl
         case vn54 => exact (fun R => .agg O0)
         case kn54 => exact (fun R => rfl)
         case gn54 => (refine gd_some rfl ?_; intro R; kernel_rfl)
         intro R s w' hT hs hw ha
         have L := ld_all (P12.sameE hw P12_nb (by simp)) uCone rfl iCone sO0
         generalize hA : putE _ _ _ _ _ _ _ = AA
         refine q_load rfl ?_ L
         subst hA
         kernel_rfl
       · refine er_q ?vn55 ?hn55 ?kn55 ?gn55 ?_
         case hn55 => exact rfl
         case vn55 => exact (fun R => .agg C1)
         case kn55 => exact (fun R => rfl)
         case gn55 => (refine gd_some rfl ?_; intro R; kernel_rfl)
         intro R s w' hT hs hw ha
         have L := ld_all (P11.sameE hw P11_nb (by simp)) uCone rfl iCone sC1
         generalize hA : putE _ _ _ _ _ _ _ = AA
         refine q_load rfl ?_ L
         subst hA
         kernel_rfl
       · refine er_q ?vn56 ?hn56 ?kn56 ?gn56 ?_
         case hn56 => exact rfl
         case vn56 => exact (fun R => .agg Xs)
         case kn56 => exact (fun R => rfl)
         case gn56 => (refine gd_some rfl ?_; intro R; kernel_rfl)
         intro R s w' hT hs hw ha
         have L := ld_all (P6.sameE hw P6_nb (by simp)) uRat rfl iRat sXs
         generalize hA : putE _ _ _ _ _ _ _ = AA
         refine q_load rfl ?_ L
         subst hA
         kernel_rfl
       · refine er_q ?vn57 ?hn57 ?kn57 ?gn57 ?_
         case hn57 => exact rfl
         case vn57 => exact (fun R => .bool true)
         case kn57 => exact (fun R => rfl)
         case gn57 => (refine gd_some rfl ?_; intro R; kernel_rfl)
         intro R s w' hT hs hw ha
         go_simp
         exact k2.out w'
       · refine er_q ?vn58 ?hn58 ?kn58 ?gn58 ?_
         case hn58 => exact rfl
         case vn58 => exact (fun R => .bool true)
         case kn58 => exact (fun R => rfl)
         case gn58 => exact gd_none rfl
         intro R s w' hT hs hw ha
         go_simp
       · refine er_q ?vn59 ?hn59 ?kn59 ?gn59 ?_
         case hn59 => exact rfl
         case vn59 => exact (fun R => .bool true)
         case kn59 => exact (fun R => rfl)
         case gn59 => exact gd_none rfl
         intro R s w' hT hs hw ha
         go_simp
       · refine er_q ?vn60 ?hn60 ?kn60 ?gn60 ?_
         case hn60 => exact rfl
         case vn60 => exact (fun R => .agg T1)
         case kn60 => exact (fun R => rfl)
         case gn60 => (refine gd_some rfl ?_; intro R; kernel_rfl)
         intro R s w' hT hs hw ha
         have L := ld_all (P13.sameE hw P13_nb (by simp)) uCone rfl iCone sT1
         generalize hA : putE _ _ _ _ _ _ _ = AA
         refine q_load rfl ?_ L
         subst hA
         kernel_rfl
       · refine er_q ?vn61 ?hn61 ?kn61 ?gn61 ?_
         case hn61 => exact rfl
         case vn61 => exact (fun R => .agg C0)
         case kn61 => exact (fun R => rfl)
         case gn61 => (refine gd_some rfl ?_; intro R; kernel_rfl)
         intro R s w' hT hs hw ha
         have L := ld_all (P10.sameE hw P10_nb (by simp)) uCone rfl iCone sC0
         generalize hA : putE _ _ _ _ _ _ _ = AA
         refine q_load rfl ?_ L
         subst hA
         kernel_rfl
       · refine er_q ?vn62 ?hn62 ?kn62 ?gn62 ?_
         case hn62 => exact rfl
         case vn62 => exact (fun R => .pointer (some ⟨g10, 1, none⟩))
         case kn62 => exact (fun R => rfl)
         case gn62 => (refine gd_some rfl ?_; intro R; kernel_rfl)
         intro R s w' hT hs hw ha
         go_simp
       · refine er_q ?vn63 ?hn63 ?kn63 ?gn63 ?_
         case hn63 => exact rfl
         case vn63 => exact (fun R => .agg L0)
         case kn63 => exact (fun R => rfl)
         case gn63 => (refine gd_some rfl ?_; intro R; kernel_rfl)
         intro R s w' hT hs hw ha
         have L := run_load_part (P10.sameE hw P10_nb (by simp)) _ _ uRat rfl 1 10 iRat (by rw [sC0]; first | decide | omega) _ (fL0)
         generalize hA : putE _ _ _ _ _ _ _ = AA
         refine q_load rfl ?_ L
         subst hA
         kernel_rfl
       · refine er_q ?vn64 ?hn64 ?kn64 ?gn64 ?_
         case hn64 => exact rfl
         case vn64 => exact (fun R => .bool true)
         case kn64 => exact (fun R => rfl)
         case gn64 => (refine gd_some rfl ?_; intro R; kernel_rfl)
         intro R s w' hT hs hw ha
         go_simp
         exact k3.out w'
       · refine er_q ?vn65 ?hn65 ?kn65 ?gn65 ?_
         case hn65 => exact rfl
         case vn65 => exact (fun R => .bool true)
         case kn65 => exact (fun R => rfl)
         case gn65 => exact gd_none rfl
         intro R s w' hT hs hw ha
         go_simp
       · refine er_q ?vn66 ?hn66 ?kn66 ?gn66 ?_
         case hn66 => exact rfl
         case vn66 => exact (fun R => .bool true)
         case kn66 => exact (fun R => rfl)
         case gn66 => exact gd_none rfl
         intro R s w' hT hs hw ha
         go_simp
       · refine er_q ?vn67 ?hn67 ?kn67 ?gn67 ?_
         case hn67 => exact rfl
         case vn67 => exact (fun R => .agg C0)
         case kn67 => exact (fun R => rfl)
         case gn67 => (refine gd_some rfl ?_; intro R; kernel_rfl)
         intro R s w' hT hs hw ha
         have L := ld_all (P10.sameE hw P10_nb (by simp)) uCone rfl iCone sC0
         generalize hA : putE _ _ _ _ _ _ _ = AA
         refine q_load rfl ?_ L
         subst hA
         kernel_rfl
       · refine er_q ?vn68 ?hn68 ?kn68 ?gn68 ?_
         case hn68 => exact rfl
         case vn68 => exact (fun R => .agg C0)
         case kn68 => exact (fun R => rfl)
         case gn68 => (refine gd_some rfl ?_; intro R; kernel_rfl)
         intro R s w' hT hs hw ha
         have L := ld_all (P10.sameE hw P10_nb (by simp)) uCone rfl iCone sC0
         generalize hA : putE _ _ _ _ _ _ _ = AA
         refine q_load rfl ?_ L
         subst hA
         kernel_rfl
       · refine er_q ?vn69 ?hn69 ?kn69 ?gn69 ?_
         case hn69 => exact rfl
         case vn69 => exact (fun R => .pointer (some ⟨g10, 11, none⟩))
         case kn69 => exact (fun R => rfl)
         case gn69 => (refine gd_some rfl ?_; intro R; kernel_rfl)
         intro R s w' hT hs hw ha
         go_simp
       · refine er_q ?vn70 ?hn70 ?kn70 ?gn70 ?_
         case hn70 => exact rfl
         case vn70 => exact (fun R => .agg H0)
         case kn70 => exact (fun R => rfl)
         case gn70 => (refine gd_some rfl ?_; intro R; kernel_rfl)
         intro R s w' hT hs hw ha
         have L := run_load_part (P10.sameE hw P10_nb (by simp)) _ _ uRat rfl 11 10 iRat (by rw [sC0]; first | decide | omega) _ (fH0)
         generalize hA : putE _ _ _ _ _ _ _ = AA
         refine q_load rfl ?_ L
         subst hA
         kernel_rfl
       · refine er_q ?vn71 ?hn71 ?kn71 ?gn71 ?_
         case hn71 => exact rfl
         case vn71 => exact (fun R => .bool true)
         case kn71 => exact (fun R => rfl)
         case gn71 => (refine gd_some rfl ?_; intro R; kernel_rfl)
         intro R s w' hT hs hw ha
         go_simp
         exact k4.out w'
       · refine er_q ?vn72 ?hn72 ?kn72 ?gn72 ?_
         case hn72 => exact rfl
         case vn72 => exact (fun R => .bool true)
         case kn72 => exact (fun R => rfl)
         case gn72 => exact gd_none rfl
         intro R s w' hT hs hw ha
         go_simp
       · refine er_q ?vn73 ?hn73 ?kn73 ?gn73 ?_
         case hn73 => exact rfl
         case vn73 => exact (fun R => .bool true)
         case kn73 => exact (fun R => rfl)
         case gn73 => exact gd_none rfl
         intro R s w' hT hs hw ha
         go_simp
     case end73 =>
      intro sI R G w74 hI
      have hS := hI.same
      have hTT := hI.holds
      have hz0 := UU.out.2.2.2.1
      have hs0 : 0 < sI := (hI.stage 16 (show 16 < 46 by decide) 0 rfl).1 (List.mem_range.2 (show 16 < 46 by decide))
      obtain ⟨n0, d0, e0, hF0⟩ := hTT.2.2.get 0 rfl hs0
      replace P4 := P4.sameE hS P4_nb (by simp)
      replace P5 := P5.sameE hS P5_nb (by simp)
      replace P6 := P6.sameE hS P6_nb (by simp)
      replace P10 := P10.sameE hS P10_nb (by simp)
      replace P11 := P11.sameE hS P11_nb (by simp)
      replace P12 := P12.sameE hS P12_nb (by simp)
      replace P13 := P13.sameE hS P13_nb (by simp)
      replace T0 := hTT.1
      replace UU := hide hTT.2.1
      clear hS hz0 hTT hI P4_lt P5_lt P6_lt P10_lt P11_lt P12_lt P13_lt
      generalize hF : putE _ _ _ _ _ _ _ = FF
      have hF2 : FF = { tmps := #[.agg Xa, .agg Xb, .agg Xs, .slice x len cap, .pointer (some ⟨g0, 0, none⟩), .pointer (some ⟨g0 + 1, 0, none⟩), .pointer (some ⟨g0 + 1 + 1, 0, none⟩), undef, .bool true, .pointer (some ⟨b, 0, none⟩), .pointer (some ⟨g10, 0, none⟩), .pointer (some ⟨g11, 0, none⟩), .pointer (some ⟨g12, 0, none⟩), .pointer (some ⟨g13, 0, none⟩), .slice x len cap, .pointer (some ⟨b, 0, none⟩), .pointer (some ⟨b, 0, none⟩), .agg C0, .pointer (some ⟨b, 0, none⟩), .agg C1, .agg C0, .pointer (some ⟨g12, 0, none⟩), .bool o0, .bool (!o0), .pointer (some ⟨g12, 0, none⟩), .pointer (some ⟨g10, 11, none⟩), .agg H0, .pointer (some ⟨g10, 1, none⟩), .agg L0, .agg T1, .bool true, .bool true, .agg stC, .agg stC, .bool true, .bool true, .bool true, .agg Xa, .agg Xb, .agg Xs, .bool true, .bool true, .bool true, .agg C0, .agg C1, .pointer (some ⟨b, 0, none⟩), (R 0), .bool true, .bool true, .bool true, .agg C1, .agg C0, .agg Xs, .bool true, .bool true, .bool true, .agg O0, .agg C1, .agg Xs, .bool true, .bool true, .bool true, .agg T1, .agg C0, .pointer (some ⟨g10, 1, none⟩), .agg L0, .bool true, .bool true, .bool true, .agg C0, .agg C0, .pointer (some ⟨g10, 11, none⟩), .agg H0, .bool true, .bool true], defers := [] } := by subst hF; kernel_rfl
      clear hF
      subst hF2
      (try simp only [e0])
      go_wp2_with fail
      go_ret
      refine ⟨?_, UU.out.ext EB.out hWb⟩
      kernel_rfl
end
end Go.Proofs.YthlbkidgdngblaaGreat
