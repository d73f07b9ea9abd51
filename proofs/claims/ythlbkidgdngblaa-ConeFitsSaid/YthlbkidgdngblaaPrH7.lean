/- Part 7 of what these claims stand on: contracts of the program's and the reference's functions, and plain facts. Conditions: each states its own. -/
import Derived.Test.YthlbkidgdngblaaPrH6
import Derived.Great.BuildSlice
namespace Go.Proofs.Ythlbkidgdngblaa
set_option linter.unusedVariables false
set_option linter.unusedSimpArgs false
section
open Go Go.RowKit Go.Sort
attribute [local go_sem] qUpon eUpon putE slE
set_option maxHeartbeats 6400000 in
set_option maxRecDepth 100000 in
theorem pc_through (B V D Ep Lo Hi U L H : Array Value) (v ep : Int) (dt : Nat) (o1 o2 o3 p1 p2 : Bool) (W : World) (sB : B.size = 5) (oB : B.all (·.oneCell') = true)
   (sD : D.size = 5) (oD : D.all (·.oneCell') = true) (sLo : Lo.size = 5) (oLo : Lo.all (·.oneCell') = true) (sHi : Hi.size = 5) (oHi : Hi.all (·.oneCell') = true) (rL : RC L) (rH : RC H) (he : 0 ≤ ep) (he2 : ep ≤ 4611686018427387904) (hdt : 0 < dt) (hdt2 : dt < 18446744073709551616)
   (k1 : Hid (∀ w, Calls Try.prog 37 #[.agg B] w (Ret (.bool true) w)))
   (k4 : Hid (∀ w, Calls Try.prog 39 #[.int .i64 v] w (Ret (.agg V) w))) (k5 : Hid (∀ w, Calls Try.prog 38 #[.agg V, .agg B] w (Ret (.tuple #[.agg D, .bool o1]) w)))
   (k6 : Hid (∀ w, Calls Try.prog 39 #[.int .i64 ep] w (Ret (.agg Ep) w))) (k7 : Hid (∀ w, Calls Try.prog 38 #[.agg D, .agg Ep] w (Ret (.tuple #[.agg Lo, .bool o2]) w))) (k8 : Hid (∀ w, Calls Try.prog 40 #[.agg D, .agg Ep] w (Ret (.tuple #[.agg Hi, .bool o3]) w)))
   (k9 : Hid (∀ w, Calls Try.prog 42 #[.int .u64 (dt : Int)] w (Ret (.agg U) w))) (k10 : Hid (∀ w, Calls Try.prog 41 #[.agg Lo, .agg U] w (Ret (.tuple #[.agg L, .bool p1]) w))) (k11 : Hid (∀ w, Calls Try.prog 41 #[.agg Hi, .agg U] w (Ret (.tuple #[.agg H, .bool p2]) w))) :
   Calls Try.prog 17 #[.agg B, .int .i64 v, .int .i64 ep, .int .u64 (dt : Int)] W (Ret (.tuple #[.agg (coneC false L H), .bool true]) W) := by
 have d1 : decide (ep < 0) = false := decide_eq_false (by omega)
 have d2 : decide (4611686018427387904 < ep) = false := decide_eq_false (by omega)
 have d3 : ((dt : Int) == 0) = false := by rw [beq_eq_false_iff_ne]; omega
 have d4 : decide (dt = 0) = false := decide_eq_false (by omega)
 have sL := rL.size
 have oL := rL.one
 have sH := rH.size
 have oH := rH.one
 have sC := coneC_size false sL sH
 have oC := cone_one false oL oH
 clear he he2 hdt
 have P4 := (Blk.new W 25 B).alloc (.cells z21 42)
 have P8 := Blk.new (W.alloc (.cells B 25)) 42 z21
 rw [alloc_size] at P8
 have EE := hide ((ext_alloc W (.cells B 25)).trans (ext_alloc _ (.cells z21 42)))
 obtain ⟨W1, hW1⟩ : ∃ W1, ((W.alloc (.cells B 25)).alloc (.cells z21 42)) = W1 := ⟨_, rfl⟩
 obtain ⟨g0, hg⟩ : ∃ g, W.heap.size = g := ⟨_, rfl⟩
 rw [hW1] at P4 P8 EE
 rw [hg] at P4 P8
 have P4_lo : W.heap.size ≤ g0 := by omega
 have P8_lo : W.heap.size ≤ g0 + 1 := by omega
 have HW := hide hW1
 have Hg := hide hg
 clear hW1 hg
 go_enter Try.func17, Try.ntmps17
 go_upto_region 1 with fail
 unfold z21 at HW
 rw [HW.out, Hg.out]
 clear HW Hg
 have P4_lt := P4.lt
 have P8_lt := P8.lt
 refine wp_evs [.q, .q, .q, .q, .q, .q, .q, .q, .q, .q, .q, .q, .q, .q, .q] [0, 0, 0, 0, 0, 0, 0, 0, 0, 0, 0, 0, 0, 0, 0] (fun R => [.agg B, .bool true, .bool false, .bool false, .int .i64 ep, .bool false, .bool false, .bool false, .int .i64 ep, .bool false, .bool false, .bool false, .int .u64 (dt : Int), .bool false, .bool false]) (fun _ => (.cells #[] 0 (0, 0))) (fun R _ => (.cells #[] 0 (0, 0))) (fun _ => 0) (XE W) (fun _ => False) (by kernel_rfl) (by kernel_rfl) (by kernel_rfl) rfl (fun _ => rfl) (fun _ h => h.elim) (fun _ _ h => h) (by simp) (by simp) (fun R R' => ⟨fun _ => rfl, fun _ => rfl, fun _ => rfl, fun _ => rfl, fun _ => rfl, fun _ => rfl, fun _ => rfl, fun _ => rfl, fun _ => rfl, fun _ => rfl, fun _ => rfl, fun _ => rfl, fun _ => rfl, fun _ => rfl, fun _ => rfl, trivial⟩) (fun _ _ _ _ => rfl) xe_below EE.out ?ops15 ?end15
 case ops15 =>
   refine ⟨?_, ?_, ?_, ?_, ?_, ?_, ?_, ?_, ?_, ?_, ?_, ?_, ?_, ?_, ?_, trivial⟩
   · refine er_q ?vn1 ?hn1 ?kn1 ?gn1 ?_
     case hn1 => exact rfl
     case vn1 => exact (fun R => .agg B)
     case kn1 => exact (fun R => rfl)
     case gn1 => exact gd_none rfl
     intro R s w' hT hs hw ha
     have L := ld_all (P4.sameE hw (fun h => h) (by simp)) uWide rfl iWide sB
     generalize hA : putE _ _ _ _ _ _ _ = AA
     refine q_load rfl ?_ L
     subst hA
     kernel_rfl
   · refine er_q ?vn2 ?hn2 ?kn2 ?gn2 ?_
     case hn2 => exact rfl
     case vn2 => exact (fun R => .bool true)
     case kn2 => exact (fun R => rfl)
     case gn2 => exact gd_none rfl
     intro R s w' hT hs hw ha
     go_simp
     exact k1.out w'
   · refine er_q ?vn3 ?hn3 ?kn3 ?gn3 ?_
     case hn3 => exact rfl
     case vn3 => exact (fun R => .bool false)
     case kn3 => exact (fun R => rfl)
     case gn3 => exact gd_none rfl
     intro R s w' hT hs hw ha
     go_simp
   · refine er_q ?vn4 ?hn4 ?kn4 ?gn4 ?_
     case hn4 => exact rfl
     case vn4 => exact (fun R => .bool false)
     case kn4 => exact (fun R => rfl)
     case gn4 => exact gd_none rfl
     intro R s w' hT hs hw ha
     go_simp
   · refine er_q ?vn5 ?hn5 ?kn5 ?gn5 ?_
     case hn5 => exact rfl
     case vn5 => exact (fun R => .int .i64 ep)
     case kn5 => exact (fun R => rfl)
     case gn5 => (refine gd_some rfl ?_; intro R; kernel_rfl)
     intro R s w' hT hs hw ha
     go_simp
   · refine er_q ?vn6 ?hn6 ?kn6 ?gn6 ?_
     case hn6 => exact rfl
     case vn6 => exact (fun R => .bool false)
     case kn6 => exact (fun R => rfl)
     case gn6 => (refine gd_some rfl ?_; intro R; kernel_rfl)
     intro R s w' hT hs hw ha
     go_simp
   · refine er_q ?vn7 ?hn7 ?kn7 ?gn7 ?_
     case hn7 => exact rfl
     case vn7 => exact (fun R => .bool false)
     case kn7 => exact (fun R => rfl)
     case gn7 => exact gd_none rfl
     intro R s w' hT hs hw ha
     go_simp
   · refine er_q ?vn8 ?hn8 ?kn8 ?gn8 ?_
     case hn8 => exact rfl
     case vn8 => exact (fun R => .bool false)
     case kn8 => exact (fun R => rfl)
     case gn8 => exact gd_none rfl
     intro R s w' hT hs hw ha
     go_simp
   · refine er_q ?vn9 ?hn9 ?kn9 ?gn9 ?_
     case hn9 => exact rfl
     case vn9 => exact (fun R => .int .i64 ep)
     case kn9 => exact (fun R => rfl)
     case gn9 => (refine gd_some rfl ?_; intro R; kernel_rfl)
     intro R s w' hT hs hw ha
     go_simp
   · refine er_q ?vn10 ?hn10 ?kn10 ?gn10 ?_
     case hn10 => exact rfl
     case vn10 => exact (fun R => .bool false)
     case kn10 => exact (fun R => rfl)
     case gn10 => (refine gd_some rfl ?_; intro R; kernel_rfl)
     intro R s w' hT hs hw ha
     go_simp
   · refine er_q ?vn11 ?hn11 ?kn11 ?gn11 ?_
     case hn11 => exact rfl
     case vn11 => exact (fun R => .bool false)
     case kn11 => exact (fun R => rfl)
     case gn11 => exact gd_none rfl
     intro R s w' hT hs hw ha
     go_simp
   · refine er_q ?vn12 ?hn12 ?kn12 ?gn12 ?_
     case hn12 => exact rfl
     case vn12 => exact (fun R => .bool false)
     case kn12 => exact (fun R => rfl)
     case gn12 => exact gd_none rfl
     intro R s w' hT hs hw ha
     go_simp
   · refine er_q ?vn13 ?hn13 ?kn13 ?gn13 ?_
     case hn13 => exact rfl
     case vn13 => exact (fun R => .int .u64 (dt : Int))
     case kn13 => exact (fun R => rfl)
     case gn13 => (refine gd_some rfl ?_; intro R; kernel_rfl)
     intro R s w' hT hs hw ha
     go_simp
   · refine er_q ?vn14 ?hn14 ?kn14 ?gn14 ?_
     case hn14 => exact rfl
     case vn14 => exact (fun R => .bool false)
     case kn14 => exact (fun R => rfl)
     case gn14 => (refine gd_some rfl ?_; intro R; kernel_rfl)
     intro R s w' hT hs hw ha
     go_simp
   · refine er_q ?vn15 ?hn15 ?kn15 ?gn15 ?_
     case hn15 => exact rfl
     case vn15 => exact (fun R => .bool false)
     case kn15 => exact (fun R => rfl)
     case gn15 => exact gd_none rfl
     intro R s w' hT hs hw ha
     go_simp
 case end15 =>
  intro sI R G w16 hI
  have hS := hI.same
  have hTT := hI.holds
  have hz0 := EE.out.size
  have P4 := P4.sameE hS (fun h => h) (by simp)
  have P8 := P8.sameE hS (fun h => h) (by simp)
  have EE := hide (show Ext _ _ from hTT)
  clear hS hz0 hTT hI
  generalize hF : putE _ _ _ _ _ _ _ = FF
  have hF2 : FF = { tmps := #[.agg B, .int .i64 v, .int .i64 ep, .int .u64 (dt : Int), .pointer (some ⟨g0, 0, none⟩), undef, undef, undef, .pointer (some ⟨g0 + 1, 0, none⟩), .bool false, undef, undef, undef, undef, undef, undef, undef, undef, undef, undef, .agg B, .bool true, .bool false, .bool false, .int .i64 ep, .bool false, .bool false, .bool false, .int .i64 ep, .bool false, .bool false, .bool false, .int .u64 (dt : Int), .bool false, .bool false, undef, undef, undef, undef, undef, undef, undef, undef, undef, undef, undef, undef, undef, undef, undef, undef, undef, undef, undef, undef, undef, undef, undef, undef, undef, undef, undef, undef, undef, undef, undef, undef, undef, undef, undef, undef, undef, undef, undef], defers := [] } := by subst hF; kernel_rfl
  clear hF
  subst hF2
  go_upto_region 3 with fail
  have P4_lt := P4.lt
  have P8_lt := P8.lt
  refine wp_ev [.q, .q, .q, .q, .q, .q, .q, .al, .st 7, .q] [0, 0, 0, 0, 0, 0, 0, 0, 0, 0] (fun R => [.int .i64 v, .agg V, .agg B, .tuple #[.agg D, .bool o1], .tuple #[.agg D, .bool o1], .agg D, .bool o1, undef, undef, .bool o1]) (fun _ => (.cells z5 25 (0, 0))) (fun R _ => (.cells D 25 (0, 0))) (fun _ => 0) (XE W) (fun _ => False) (by kernel_rfl) (by kernel_rfl) (by kernel_rfl) (by kernel_rfl) rfl (fun _ => rfl) (fun _ h => h.elim) (fun _ _ h => h) (by simp) (by simp) (fun R R' => ⟨fun _ => rfl, fun _ => rfl, fun _ => rfl, fun _ => rfl, fun _ => rfl, fun _ => rfl, fun _ => rfl, fun _ => rfl, fun _ => rfl, fun _ => rfl, trivial⟩) (fun _ _ _ _ => rfl) xe_below (EE.out.trans (ext_drew _)) ?ops26 ?end26
  case ops26 =>
    refine ⟨?_, ?_, ?_, ?_, ?_, ?_, ?_, ?_, ?_, ?_, trivial⟩
    · refine er_q ?vn17 ?hn17 ?kn17 ?gn17 ?_
      case hn17 => exact rfl
      case vn17 => exact (fun R => .int .i64 v)
      case kn17 => exact (fun R => rfl)
      case gn17 => exact gd_none rfl
      intro R s w' hT hs hw ha
      go_simp
    · refine er_q ?vn18 ?hn18 ?kn18 ?gn18 ?_
      case hn18 => exact rfl
      case vn18 => exact (fun R => .agg V)
      case kn18 => exact (fun R => rfl)
      case gn18 => exact gd_none rfl
      intro R s w' hT hs hw ha
      go_simp
      exact k4.out w'
    · refine er_q ?vn19 ?hn19 ?kn19 ?gn19 ?_
      case hn19 => exact rfl
      case vn19 => exact (fun R => .agg B)
      case kn19 => exact (fun R => rfl)
      case gn19 => exact gd_none rfl
      intro R s w' hT hs hw ha
      have L := ld_all (P4.sameE hw (fun h => h) (by simp)) uWide rfl iWide sB
      generalize hA : putE _ _ _ _ _ _ _ = AA
      refine q_load rfl ?_ L
      subst hA
      kernel_rfl
    · refine er_q ?vn20 ?hn20 ?kn20 ?gn20 ?_
      case hn20 => exact rfl
      case vn20 => exact (fun R => .tuple #[.agg D, .bool o1])
      case kn20 => exact (fun R => rfl)
      case gn20 => exact gd_none rfl
      intro R s w' hT hs hw ha
      go_simp
      exact k5.out w'
    · refine er_q ?vn21 ?hn21 ?kn21 ?gn21 ?_
      case hn21 => exact rfl
      case vn21 => exact (fun R => .tuple #[.agg D, .bool o1])
      case kn21 => exact (fun R => rfl)
      case gn21 => exact gd_none rfl
      intro R s w' hT hs hw ha
      go_simp
    · refine er_q ?vn22 ?hn22 ?kn22 ?gn22 ?_
      case hn22 => exact rfl
      case vn22 => exact (fun R => .agg D)
      case kn22 => exact (fun R => rfl)
      case gn22 => exact gd_none rfl
      intro R s w' hT hs hw ha
      go_simp
    · refine er_q ?vn23 ?hn23 ?kn23 ?gn23 ?_
      case hn23 => exact rfl
      case vn23 => exact (fun R => .bool o1)
      case kn23 => exact (fun R => rfl)
      case gn23 => exact gd_none rfl
      intro R s w' hT hs hw ha
      go_simp
    · refine er_al ?zn24 ?hn24 ?kn24 ?gn24 ?_
      case zn24 => exact (.cells z5 25 (0, 0))
      case hn24 => exact rfl
      case kn24 => exact rfl
      case gn24 => exact gd_none rfl
      intro ρ w'
      go_simp
      exact ⟨rfl, rfl⟩
    · refine er_st (j := 7) (Ty := ?Tn25) (p := ?pn25) (x := ?xn25) ?fn25 ?zn25 ?vn25 ?hn25 ?on25 ?kn25 ?ln25 ?gn25 ?en25 ?_
      case hn25 => exact rfl
      case on25 => exact rfl
      case fn25 => exact (fun R => (.cells D 25 (0, 0)))
      case zn25 => exact (.cells z5 25 (0, 0))
      case vn25 => exact (fun R => .agg D)
      case kn25 => exact (fun R => rfl)
      case ln25 => exact rfl
      case gn25 => exact gd_none rfl
      case en25 =>
        intro R
        kernel_rfl
      intro R s ρ w g hT hs hp hx hg hz
      exact ⟨store_row rfl hp hx hz iWide (sD) (oD), fun w1 hF => ext_filled hT hF (Nat.le_trans EE.out.size hg)⟩
    · refine er_q ?vn26 ?hn26 ?kn26 ?gn26 ?_
      case hn26 => exact rfl
      case vn26 => exact (fun R => .bool o1)
      case kn26 => exact (fun R => rfl)
      case gn26 => exact gd_none rfl
      intro R s w' hT hs hw ha
      go_simp
  case end26 =>
   intro sI R G w27 hI
   have hS := hI.same
   have hTT := hI.holds
   have hz0 := EE.out.size
   have P4 := P4.sameE hS (fun h => h) (by simp)
   have P8 := P8.sameE hS (fun h => h) (by simp)
   have P10 : Blk w27 (G 7) 25 D := (hI.fulls 8 (List.mem_range.2 (show 8 < 10 by decide)) 7 rfl).2.2
   have hmP10 := (hI.made 7 (List.mem_range.2 (show 7 < 10 by decide)) rfl).1
   have P10_lo : W.heap.size ≤ G 7 := Nat.le_trans hz0 hmP10
   have ngP4_10 : g0 ≠ G 7 := by omega
   have ngP8_10 : g0 + 1 ≠ G 7 := by omega
   have EE := hide (show Ext _ _ from hTT)
   clear hS hz0 hTT hI
   generalize hF : putE _ _ _ _ _ _ _ = FF
   have hF2 : FF = { tmps := #[.agg B, .int .i64 v, .int .i64 ep, .int .u64 (dt : Int), .pointer (some ⟨g0, 0, none⟩), undef, undef, undef, .pointer (some ⟨g0 + 1, 0, none⟩), .bool false, .pointer (some ⟨G 7, 0, none⟩), .bool o1, undef, undef, undef, undef, undef, undef, undef, undef, .agg B, .bool true, .bool false, .bool false, .int .i64 ep, .bool false, .bool false, .bool false, .int .i64 ep, .bool false, .bool false, .bool false, .int .u64 (dt : Int), .bool false, .bool false, undef, .tuple #[.agg D, .bool o1], .int .i64 v, .agg V, .agg B, .tuple #[.agg D, .bool o1], .agg D, .bool o1, undef, undef, undef, undef, undef, undef, undef, undef, undef, undef, undef, undef, undef, undef, undef, undef, undef, undef, undef, undef, undef, undef, undef, undef, undef, undef, undef, undef, undef, undef, undef], defers := [] } := by subst hF; kernel_rfl
   clear hF
   subst hF2
   generalize G 7 = g10 at *
   go_upto_region 4 with fail
   have P4_lt := P4.lt
   have P8_lt := P8.lt
   have P10_lt := P10.lt
   refine wp_ev [.q, .q, .q, .q, .q, .q, .q, .al, .st 7, .q] [0, 0, 0, 0, 0, 0, 0, 0, 0, 0] (fun R => [.agg D, .int .i64 ep, .agg Ep, .tuple #[.agg Lo, .bool o2], .tuple #[.agg Lo, .bool o2], .agg Lo, .bool o2, undef, undef, .bool o2]) (fun _ => (.cells z5 25 (0, 0))) (fun R _ => (.cells Lo 25 (0, 0))) (fun _ => 0) (XE W) (fun _ => False) (by kernel_rfl) (by kernel_rfl) (by kernel_rfl) (by kernel_rfl) rfl (fun _ => rfl) (fun _ h => h.elim) (fun _ _ h => h) (by simp) (by simp) (fun R R' => ⟨fun _ => rfl, fun _ => rfl, fun _ => rfl, fun _ => rfl, fun _ => rfl, fun _ => rfl, fun _ => rfl, fun _ => rfl, fun _ => rfl, fun _ => rfl, trivial⟩) (fun _ _ _ _ => rfl) xe_below (EE.out.trans (ext_drew _)) ?ops37 ?end37
   case ops37 =>
     refine ⟨?_, ?_, ?_, ?_, ?_, ?_, ?_, ?_, ?_, ?_, trivial⟩
     · refine er_q ?vn28 ?hn28 ?kn28 ?gn28 ?_
       case hn28 => exact rfl
       case vn28 => exact (fun R => .agg D)
       case kn28 => exact (fun R => rfl)
       case gn28 => exact gd_none rfl
       intro R s w' hT hs hw ha
       have L := ld_all (P10.sameE hw (fun h => h) (by simp)) uWide rfl iWide sD
       generalize hA : putE _ _ _ _ _ _ _ = AA
       refine q_load rfl ?_ L
       subst hA
       kernel_rfl
     · refine er_q ?vn29 ?hn29 ?kn29 ?gn29 ?_
       case hn29 => exact rfl
       case vn29 => exact (fun R => .int .i64 ep)
       case kn29 => exact (fun R => rfl)
       case gn29 => exact gd_none rfl
       intro R s w' hT hs hw ha
       go_simp
     · refine er_q ?vn30 ?hn30 ?kn30 ?gn30 ?_
       case hn30 => exact rfl
       case vn30 => exact (fun R => .agg Ep)
       case kn30 => exact (fun R => rfl)
       case gn30 => exact gd_none rfl
       intro R s w' hT hs hw ha
       go_simp
       exact k6.out w'
     · refine er_q ?vn31 ?hn31 ?kn31 ?gn31 ?_
       case hn31 => exact rfl
       case vn31 => exact (fun R => .tuple #[.agg Lo, .bool o2])
       case kn31 => exact (fun R => rfl)
       case gn31 => exact gd_none rfl
       intro R s w' hT hs hw ha
       go_simp
       exact k7.out w'
     · refine er_q ?vn32 ?hn32 ?kn32 ?gn32 ?_
       case hn32 => exact rfl
       case vn32 => exact (fun R => .tuple #[.agg Lo, .bool o2])
       case kn32 => exact (fun R => rfl)
       case gn32 => exact gd_none rfl
       intro R s w' hT hs hw ha
       go_simp
     · refine er_q ?vn33 ?hn33 ?kn33 ?gn33 ?_
       case hn33 => exact rfl
       case vn33 => exact (fun R => .agg Lo)
       case kn33 => exact (fun R => rfl)
       case gn33 => exact gd_none rfl
       intro R s w' hT hs hw ha
       go_simp
     · refine er_q ?vn34 ?hn34 ?kn34 ?gn34 ?_
       case hn34 => exact rfl
       case vn34 => exact (fun R => .bool o2)
       case kn34 => exact (fun R => rfl)
       case gn34 => exact gd_none rfl
       intro R s w' hT hs hw ha
       go_simp
     · refine er_al ?zn35 ?hn35 ?kn35 ?gn35 ?_
       case zn35 => exact (.cells z5 25 (0, 0))
       case hn35 => exact rfl
       case kn35 => exact rfl
       case gn35 => exact gd_none rfl
       intro ρ w'
       go_simp
       exact ⟨rfl, rfl⟩
     · refine er_st (j := 7) (Ty := ?Tn36) (p := ?pn36) (x := ?xn36) ?fn36 ?zn36 ?vn36 ?hn36 ?on36 ?kn36 ?ln36 ?gn36 ?en36 ?_
       case hn36 => exact rfl
       case on36 => exact rfl
       case fn36 => exact (fun R => (.cells Lo 25 (0, 0)))
       case zn36 => exact (.cells z5 25 (0, 0))
       case vn36 => exact (fun R => .agg Lo)
       case kn36 => exact (fun R => rfl)
       case ln36 => exact rfl
       case gn36 => exact gd_none rfl
       case en36 =>
         intro R
         kernel_rfl
       intro R s ρ w g hT hs hp hx hg hz
       exact ⟨store_row rfl hp hx hz iWide (sLo) (oLo), fun w1 hF => ext_filled hT hF (Nat.le_trans EE.out.size hg)⟩
     · refine er_q ?vn37 ?hn37 ?kn37 ?gn37 ?_
       case hn37 => exact rfl
       case vn37 => exact (fun R => .bool o2)
       case kn37 => exact (fun R => rfl)
       case gn37 => exact gd_none rfl
       intro R s w' hT hs hw ha
       go_simp
   case end37 =>
    intro sI R G w38 hI
    have hS := hI.same
    have hTT := hI.holds
    have hz0 := EE.out.size
    have P4 := P4.sameE hS (fun h => h) (by simp)
    have P8 := P8.sameE hS (fun h => h) (by simp)
    have P10 := P10.sameE hS (fun h => h) (by simp)
    have P12 : Blk w38 (G 7) 25 Lo := (hI.fulls 8 (List.mem_range.2 (show 8 < 10 by decide)) 7 rfl).2.2
    have hmP12 := (hI.made 7 (List.mem_range.2 (show 7 < 10 by decide)) rfl).1
    have P12_lo : W.heap.size ≤ G 7 := Nat.le_trans hz0 hmP12
    have ngP4_12 : g0 ≠ G 7 := by omega
    have ngP8_12 : g0 + 1 ≠ G 7 := by omega
    have ngP10_12 : g10 ≠ G 7 := by omega
    have EE := hide (show Ext _ _ from hTT)
    clear hS hz0 hTT hI
    generalize hF : putE _ _ _ _ _ _ _ = FF
    have hF2 : FF = { tmps := #[.agg B, .int .i64 v, .int .i64 ep, .int .u64 (dt : Int), .pointer (some ⟨g0, 0, none⟩), undef, undef, undef, .pointer (some ⟨g0 + 1, 0, none⟩), .bool false, .pointer (some ⟨g10, 0, none⟩), .bool o1, .pointer (some ⟨G 7, 0, none⟩), .bool o2, undef, undef, undef, undef, undef, undef, .agg B, .bool true, .bool false, .bool false, .int .i64 ep, .bool false, .bool false, .bool false, .int .i64 ep, .bool false, .bool false, .bool false, .int .u64 (dt : Int), .bool false, .bool false, undef, .tuple #[.agg D, .bool o1], .int .i64 v, .agg V, .agg B, .tuple #[.agg D, .bool o1], .agg D, .bool o1, .tuple #[.agg Lo, .bool o2], .agg D, .int .i64 ep, .agg Ep, .tuple #[.agg Lo, .bool o2], .agg Lo, .bool o2, undef, undef, undef, undef, undef, undef, undef, undef, undef, undef, undef, undef, undef, undef, undef, undef, undef, undef, undef, undef, undef, undef, undef, undef], defers := [] } := by subst hF; kernel_rfl
    clear hF
    subst hF2
    generalize G 7 = g12 at *
    go_upto_region 5 with fail
    have P4_lt := P4.lt
    have P8_lt := P8.lt
    have P10_lt := P10.lt
    have P12_lt := P12.lt
    refine wp_ev [.q, .q, .q, .q, .q, .q, .q, .al, .st 7, .q] [0, 0, 0, 0, 0, 0, 0, 0, 0, 0] (fun R => [.agg D, .int .i64 ep, .agg Ep, .tuple #[.agg Hi, .bool o3], .tuple #[.agg Hi, .bool o3], .agg Hi, .bool o3, undef, undef, .bool o3]) (fun _ => (.cells z5 25 (0, 0))) (fun R _ => (.cells Hi 25 (0, 0))) (fun _ => 0) (XE W) (fun _ => False) (by kernel_rfl) (by kernel_rfl) (by kernel_rfl) (by kernel_rfl) rfl (fun _ => rfl) (fun _ h => h.elim) (fun _ _ h => h) (by simp) (by simp) (fun R R' => ⟨fun _ => rfl, fun _ => rfl, fun _ => rfl, fun _ => rfl, fun _ => rfl, fun _ => rfl, fun _ => rfl, fun _ => rfl, fun _ => rfl, fun _ => rfl, trivial⟩) (fun _ _ _ _ => rfl) xe_below (EE.out.trans (ext_drew _)) ?ops48 ?end48
    case ops48 =>
      refine ⟨?_, ?_, ?_, ?_, ?_, ?_, ?_, ?_, ?_, ?_, trivial⟩
      · refine er_q ?vn39 ?hn39 ?kn39 ?gn39 ?_
        case hn39 => exact rfl
        case vn39 => exact (fun R => .agg D)
        case kn39 => exact (fun R => rfl)
        case gn39 => exact gd_none rfl
        intro R s w' hT hs hw ha
        have L := ld_all (P10.sameE hw (fun h => h) (by simp)) uWide rfl iWide sD
        generalize hA : putE _ _ _ _ _ _ _ = AA
        refine q_load rfl ?_ L
        subst hA
        kernel_rfl
      · refine er_q ?vn40 ?hn40 ?kn40 ?gn40 ?_
        case hn40 => exact rfl
        case vn40 => exact (fun R => .int .i64 ep)
        case kn40 => exact (fun R => rfl)
        case gn40 => exact gd_none rfl
        intro R s w' hT hs hw ha
        go_simp
      · refine er_q ?vn41 ?hn41 ?kn41 ?gn41 ?_
        case hn41 => exact rfl
        case vn41 => exact (fun R => .agg Ep)
        case kn41 => exact (fun R => rfl)
        case gn41 => exact gd_none rfl
        intro R s w' hT hs hw ha
        go_simp
        exact k6.out w'
      · refine er_q ?vn42 ?hn42 ?kn42 ?gn42 ?_
        case hn42 => exact rfl
        case vn42 => exact (fun R => .tuple #[.agg Hi, .bool o3])
        case kn42 => exact (fun R => rfl)
        case gn42 => exact gd_none rfl
        intro R s w' hT hs hw ha
        go_simp
        exact k8.out w'
      · refine er_q ?vn43 ?hn43 ?kn43 ?gn43 ?_
        case hn43 => exact rfl
        case vn43 => exact (fun R => .tuple #[.agg Hi, .bool o3])
        case kn43 => exact (fun R => rfl)
        case gn43 => exact gd_none rfl
        intro R s w' hT hs hw ha
        go_simp
      · refine er_q ?vn44 ?hn44 ?kn44 ?gn44 ?_
        case hn44 => exact rfl
        case vn44 => exact (fun R => .agg Hi)
        case kn44 => exact (fun R => rfl)
        case gn44 => exact gd_none rfl
        intro R s w' hT hs hw ha
        go_simp
      · refine er_q ?vn45 ?hn45 ?kn45 ?gn45 ?_
        case hn45 => exact rfl
        case vn45 => exact (fun R => .bool o3)
        case kn45 => exact (fun R => rfl)
        case gn45 => exact gd_none rfl
        intro R s w' hT hs hw ha
        go_simp
      · refine er_al ?zn46 ?hn46 ?kn46 ?gn46 ?_
        case zn46 => exact (.cells z5 25 (0, 0))
        case hn46 => exact rfl
        case kn46 => exact rfl
        case gn46 => exact gd_none rfl
        intro ρ w'
        go_simp
        exact ⟨rfl, rfl⟩
      · refine er_st (j := 7) (Ty := ?Tn47) (p := ?pn47) (x := ?xn47) ?fn47 ?zn47 ?vn47 ?hn47 ?on47 ?kn47 ?ln47 ?gn47 ?en47 ?_
        case hn47 => exact rfl
        case on47 => exact rfl
        case fn47 => exact (fun R => (.cells Hi 25 (0, 0)))
        case zn47 => exact (.cells z5 25 (0, 0))
        case vn47 => exact (fun R => .agg Hi)
        case kn47 => exact (fun R => rfl)
        case ln47 => exact rfl
        case gn47 => exact gd_none rfl
        case en47 =>
          intro R
          kernel_rfl
        intro R s ρ w g hT hs hp hx hg hz
        exact ⟨store_row rfl hp hx hz iWide (sHi) (oHi), fun w1 hF => ext_filled hT hF (Nat.le_trans EE.out.size hg)⟩
      · refine er_q ?vn48 ?hn48 ?kn48 ?gn48 ?_
        case hn48 => exact rfl
        case vn48 => exact (fun R => .bool o3)
        case kn48 => exact (fun R => rfl)
        case gn48 => exact gd_none rfl
        intro R s w' hT hs hw ha
        go_simp
    case end48 =>
     intro sI R G w49 hI
     have hS := hI.same
     have hTT := hI.holds
     have hz0 := EE.out.size
     have P4 := P4.sameE hS (fun h => h) (by simp)
     have P8 := P8.sameE hS (fun h => h) (by simp)
     have P10 := P10.sameE hS (fun h => h) (by simp)
     have P12 := P12.sameE hS (fun h => h) (by simp)
     have P14 : Blk w49 (G 7) 25 Hi := (hI.fulls 8 (List.mem_range.2 (show 8 < 10 by decide)) 7 rfl).2.2
     have hmP14 := (hI.made 7 (List.mem_range.2 (show 7 < 10 by decide)) rfl).1
     have P14_lo : W.heap.size ≤ G 7 := Nat.le_trans hz0 hmP14
     have ngP4_14 : g0 ≠ G 7 := by omega
     have ngP8_14 : g0 + 1 ≠ G 7 := by omega
     have ngP10_14 : g10 ≠ G 7 := by omega
     have ngP12_14 : g12 ≠ G 7 := by omega
     have EE := hide (show Ext _ _ from hTT)
     clear hS hz0 hTT hI
     generalize hF : putE _ _ _ _ _ _ _ = FF
     have hF2 : FF = { tmps := #[.agg B, .int .i64 v, .int .i64 ep, .int .u64 (dt : Int), .pointer (some ⟨g0, 0, none⟩), undef, undef, undef, .pointer (some ⟨g0 + 1, 0, none⟩), .bool false, .pointer (some ⟨g10, 0, none⟩), .bool o1, .pointer (some ⟨g12, 0, none⟩), .bool o2, .pointer (some ⟨G 7, 0, none⟩), .bool o3, undef, undef, undef, undef, .agg B, .bool true, .bool false, .bool false, .int .i64 ep, .bool false, .bool false, .bool false, .int .i64 ep, .bool false, .bool false, .bool false, .int .u64 (dt : Int), .bool false, .bool false, undef, .tuple #[.agg D, .bool o1], .int .i64 v, .agg V, .agg B, .tuple #[.agg D, .bool o1], .agg D, .bool o1, .tuple #[.agg Lo, .bool o2], .agg D, .int .i64 ep, .agg Ep, .tuple #[.agg Lo, .bool o2], .agg Lo, .bool o2, .tuple #[.agg Hi, .bool o3], .agg D, .int .i64 ep, .agg Ep, .tuple #[.agg Hi, .bool o3], .agg Hi, .bool o3, undef, undef, undef, undef, undef, undef, undef, undef, undef, undef, undef, undef, undef, undef, undef, undef, undef], defers := [] } := by subst hF; kernel_rfl
     clear hF
     subst hF2
     generalize G 7 = g14 at *
     go_upto_region 6 with fail
     have P4_lt := P4.lt
     have P8_lt := P8.lt
     have P10_lt := P10.lt
     have P12_lt := P12.lt
     have P14_lt := P14.lt
     refine wp_ev [.q, .q, .q, .q, .q, .q, .q, .al, .st 7, .q] [0, 0, 0, 0, 0, 0, 0, 0, 0, 0] (fun R => [.agg Lo, .int .u64 (dt : Int), .agg U, .tuple #[.agg L, .bool p1], .tuple #[.agg L, .bool p1], .agg L, .bool p1, undef, undef, .bool p1]) (fun _ => (.cells zR 40 (0, 0))) (fun R _ => (.cells L 40 (0, 0))) (fun _ => 0) (XE W) (fun _ => False) (by kernel_rfl) (by kernel_rfl) (by kernel_rfl) (by kernel_rfl) rfl (fun _ => rfl) (fun _ h => h.elim) (fun _ _ h => h) (by simp) (by simp) (fun R R' => ⟨fun _ => rfl, fun _ => rfl, fun _ => rfl, fun _ => rfl, fun _ => rfl, fun _ => rfl, fun _ => rfl, fun _ => rfl, fun _ => rfl, fun _ => rfl, trivial⟩) (fun _ _ _ _ => rfl) xe_below (EE.out.trans (ext_drew _)) ?ops59 ?end59
     case ops59 =>
       refine ⟨?_, ?_, ?_, ?_, ?_, ?_, ?_, ?_, ?_, ?_, trivial⟩
       · refine er_q ?vn50 ?hn50 ?kn50 ?gn50 ?_
         case hn50 => exact rfl
         case vn50 => exact (fun R => .agg Lo)
         case kn50 => exact (fun R => rfl)
         case gn50 => exact gd_none rfl
         intro R s w' hT hs hw ha
         have L := ld_all (P12.sameE hw (fun h => h) (by simp)) uWide rfl iWide sLo
         generalize hA : putE _ _ _ _ _ _ _ = AA
         refine q_load rfl ?_ L
         subst hA
         kernel_rfl
       · refine er_q ?vn51 ?hn51 ?kn51 ?gn51 ?_
         case hn51 => exact rfl
         case vn51 => exact (fun R => .int .u64 (dt : Int))
         case kn51 => exact (fun R => rfl)
         case gn51 => exact gd_none rfl
         intro R s w' hT hs hw ha
         go_simp
       · refine er_q ?vn52 ?hn52 ?kn52 ?gn52 ?_
         case hn52 => exact rfl
         case vn52 => exact (fun R => .agg U)
         case kn52 => exact (fun R => rfl)
         case gn52 => exact gd_none rfl
         intro R s w' hT hs hw ha
         go_simp
         exact k9.out w'
       · refine er_q ?vn53 ?hn53 ?kn53 ?gn53 ?_
         case hn53 => exact rfl
         case vn53 => exact (fun R => .tuple #[.agg L, .bool p1])
         case kn53 => exact (fun R => rfl)
         case gn53 => exact gd_none rfl
         intro R s w' hT hs hw ha
         go_simp
         exact k10.out w'
       · refine er_q ?vn54 ?hn54 ?kn54 ?gn54 ?_
         case hn54 => exact rfl
         case vn54 => exact (fun R => .tuple #[.agg L, .bool p1])
         case kn54 => exact (fun R => rfl)
         case gn54 => exact gd_none rfl
         intro R s w' hT hs hw ha
         go_simp
       · refine er_q ?vn55 ?hn55 ?kn55 ?gn55 ?_
         case hn55 => exact rfl
         case vn55 => exact (fun R => .agg L)
         case kn55 => exact (fun R => rfl)
         case gn55 => exact gd_none rfl
         intro R s w' hT hs hw ha
         go_simp
       · refine er_q ?vn56 ?hn56 ?kn56 ?gn56 ?_
         case hn56 => exact rfl
         case vn56 => exact (fun R => .bool p1)
         case kn56 => exact (fun R => rfl)
         case gn56 => exact gd_none rfl
         intro R s w' hT hs hw ha
         go_simp
       · refine er_al ?zn57 ?hn57 ?kn57 ?gn57 ?_
         case zn57 => exact (.cells zR 40 (0, 0))
         case hn57 => exact rfl
         case kn57 => exact rfl
         case gn57 => exact gd_none rfl
         intro ρ w'
         go_simp
         exact ⟨rfl, rfl⟩
       · refine er_st (j := 7) (Ty := ?Tn58) (p := ?pn58) (x := ?xn58) ?fn58 ?zn58 ?vn58 ?hn58 ?on58 ?kn58 ?ln58 ?gn58 ?en58 ?_
         case hn58 => exact rfl
         case on58 => exact rfl
         case fn58 => exact (fun R => (.cells L 40 (0, 0)))
         case zn58 => exact (.cells zR 40 (0, 0))
         case vn58 => exact (fun R => .agg L)
         case kn58 => exact (fun R => rfl)
         case ln58 => exact rfl
         case gn58 => exact gd_none rfl
         case en58 =>
           intro R
           kernel_rfl
         intro R s ρ w g hT hs hp hx hg hz
         exact ⟨store_row rfl hp hx hz iRat (sL) (oL), fun w1 hF => ext_filled hT hF (Nat.le_trans EE.out.size hg)⟩
       · refine er_q ?vn59 ?hn59 ?kn59 ?gn59 ?_
         case hn59 => exact rfl
         case vn59 => exact (fun R => .bool p1)
         case kn59 => exact (fun R => rfl)
         case gn59 => exact gd_none rfl
         intro R s w' hT hs hw ha
         go_simp
     case end59 =>
      intro sI R G w60 hI
      have hS := hI.same
      have hTT := hI.holds
      have hz0 := EE.out.size
      have P4 := P4.sameE hS (fun h => h) (by simp)
      have P8 := P8.sameE hS (fun h => h) (by simp)
      have P10 := P10.sameE hS (fun h => h) (by simp)
      have P12 := P12.sameE hS (fun h => h) (by simp)
      have P14 := P14.sameE hS (fun h => h) (by simp)
      have P16 : Blk w60 (G 7) 40 L := (hI.fulls 8 (List.mem_range.2 (show 8 < 10 by decide)) 7 rfl).2.2
      have hmP16 := (hI.made 7 (List.mem_range.2 (show 7 < 10 by decide)) rfl).1
      have P16_lo : W.heap.size ≤ G 7 := Nat.le_trans hz0 hmP16
      have ngP4_16 : g0 ≠ G 7 := by omega
      have ngP8_16 : g0 + 1 ≠ G 7 := by omega
      have ngP10_16 : g10 ≠ G 7 := by omega
      have ngP12_16 : g12 ≠ G 7 := by omega
      have ngP14_16 : g14 ≠ G 7 := by omega
      have EE := hide (show Ext _ _ from hTT)
      clear hS hz0 hTT hI
      generalize hF : putE _ _ _ _ _ _ _ = FF
      have hF2 : FF = { tmps := #[.agg B, .int .i64 v, .int .i64 ep, .int .u64 (dt : Int), .pointer (some ⟨g0, 0, none⟩), undef, undef, undef, .pointer (some ⟨g0 + 1, 0, none⟩), .bool false, .pointer (some ⟨g10, 0, none⟩), .bool o1, .pointer (some ⟨g12, 0, none⟩), .bool o2, .pointer (some ⟨g14, 0, none⟩), .bool o3, .pointer (some ⟨G 7, 0, none⟩), .bool p1, undef, undef, .agg B, .bool true, .bool false, .bool false, .int .i64 ep, .bool false, .bool false, .bool false, .int .i64 ep, .bool false, .bool false, .bool false, .int .u64 (dt : Int), .bool false, .bool false, undef, .tuple #[.agg D, .bool o1], .int .i64 v, .agg V, .agg B, .tuple #[.agg D, .bool o1], .agg D, .bool o1, .tuple #[.agg Lo, .bool o2], .agg D, .int .i64 ep, .agg Ep, .tuple #[.agg Lo, .bool o2], .agg Lo, .bool o2, .tuple #[.agg Hi, .bool o3], .agg D, .int .i64 ep, .agg Ep, .tuple #[.agg Hi, .bool o3], .agg Hi, .bool o3, .tuple #[.agg L, .bool p1], .agg Lo, .int .u64 (dt : Int), .agg U, .tuple #[.agg L, .bool p1], .agg L, .bool p1, undef, undef, undef, undef, undef, undef, undef, undef, undef, undef], defers := [] } := by subst hF; kernel_rfl
      clear hF
      subst hF2
      generalize G 7 = g16 at *
      go_upto_region 7 with fail
      have P4_lt := P4.lt
      have P8_lt := P8.lt
      have P10_lt := P10.lt
      have P12_lt := P12.lt
      have P14_lt := P14.lt
      have P16_lt := P16.lt
      refine wp_ev [.q, .q, .q, .q, .q, .q, .q, .al, .st 7, .q] [0, 0, 0, 0, 0, 0, 0, 0, 0, 0] (fun R => [.agg Hi, .int .u64 (dt : Int), .agg U, .tuple #[.agg H, .bool p2], .tuple #[.agg H, .bool p2], .agg H, .bool p2, undef, undef, .bool p2]) (fun _ => (.cells zR 40 (0, 0))) (fun R _ => (.cells H 40 (0, 0))) (fun _ => 0) (XE W) (fun _ => False) (by kernel_rfl) (by kernel_rfl) (by kernel_rfl) (by kernel_rfl) rfl (fun _ => rfl) (fun _ h => h.elim) (fun _ _ h => h) (by simp) (by simp) (fun R R' => ⟨fun _ => rfl, fun _ => rfl, fun _ => rfl, fun _ => rfl, fun _ => rfl, fun _ => rfl, fun _ => rfl, fun _ => rfl, fun _ => rfl, fun _ => rfl, trivial⟩) (fun _ _ _ _ => rfl) xe_below (EE.out.trans (ext_drew _)) ?ops70 ?end70
      case ops70 =>
        refine ⟨?_, ?_, ?_, ?_, ?_, ?_, ?_, ?_, ?_, ?_, trivial⟩
        · refine er_q ?vn61 ?hn61 ?kn61 ?gn61 ?_
          case hn61 => exact rfl
          case vn61 => exact (fun R => .agg Hi)
          case kn61 => exact (fun R => rfl)
          case gn61 => exact gd_none rfl
          intro R s w' hT hs hw ha
          have L := ld_all (P14.sameE hw (fun h => h) (by simp)) uWide rfl iWide sHi
          generalize hA : putE _ _ _ _ _ _ _ = AA
          refine q_load rfl ?_ L
          subst hA
          kernel_rfl
        · refine er_q ?vn62 ?hn62 ?kn62 ?gn62 ?_
          case hn62 => exact rfl
          case vn62 => exact (fun R => .int .u64 (dt : Int))
          case kn62 => exact (fun R => rfl)
          case gn62 => exact gd_none rfl
          intro R s w' hT hs hw ha
          go_simp
        · refine er_q ?vn63 ?hn63 ?kn63 ?gn63 ?_
          case hn63 => exact rfl
          case vn63 => exact (fun R => .agg U)
          case kn63 => exact (fun R => rfl)
          case gn63 => exact gd_none rfl
          intro R s w' hT hs hw ha
          go_simp
          exact k9.out w'
        · refine er_q ?vn64 ?hn64 ?kn64 ?gn64 ?_
          case hn64 => exact rfl
          case vn64 => exact (fun R => .tuple #[.agg H, .bool p2])
          case kn64 => exact (fun R => rfl)
          case gn64 => exact gd_none rfl
          intro R s w' hT hs hw ha
          go_simp
          exact k11.out w'
        · refine er_q ?vn65 ?hn65 ?kn65 ?gn65 ?_
          case hn65 => exact rfl
          case vn65 => exact (fun R => .tuple #[.agg H, .bool p2])
          case kn65 => exact (fun R => rfl)
          case gn65 => exact gd_none rfl
          intro R s w' hT hs hw ha
          go_simp
        · refine er_q ?vn66 ?hn66 ?kn66 ?gn66 ?_
          case hn66 => exact rfl
          case vn66 => exact (fun R => .agg H)
          case kn66 => exact (fun R => rfl)
          case gn66 => exact gd_none rfl
          intro R s w' hT hs hw ha
          go_simp
        · refine er_q ?vn67 ?hn67 ?kn67 ?gn67 ?_
          case hn67 => exact rfl
          case vn67 => exact (fun R => .bool p2)
          case kn67 => exact (fun R => rfl)
          case gn67 => exact gd_none rfl
          intro R s w' hT hs hw ha
          go_simp
        · refine er_al ?zn68 ?hn68 ?kn68 ?gn68 ?_
          case zn68 => exact (.cells zR 40 (0, 0))
          case hn68 => exact rfl
          case kn68 => exact rfl
          case gn68 => exact gd_none rfl
          intro ρ w'
          go_simp
          exact ⟨rfl, rfl⟩
        · refine er_st (j := 7) (Ty := ?Tn69) (p := ?pn69) (x := ?xn69) ?fn69 ?zn69 ?vn69 ?hn69 ?on69 ?kn69 ?ln69 ?gn69 ?en69 ?_
          case hn69 => exact rfl
          case on69 => exact rfl
          case fn69 => exact (fun R => (.cells H 40 (0, 0)))
          case zn69 => exact (.cells zR 40 (0, 0))
          case vn69 => exact (fun R => .agg H)
          case kn69 => exact (fun R => rfl)
          case ln69 => exact rfl
          case gn69 => exact gd_none rfl
          case en69 =>
            intro R
            kernel_rfl
          intro R s ρ w g hT hs hp hx hg hz
          exact ⟨store_row rfl hp hx hz iRat (sH) (oH), fun w1 hF => ext_filled hT hF (Nat.le_trans EE.out.size hg)⟩
        · refine er_q ?vn70 ?hn70 ?kn70 ?gn70 ?_
          case hn70 => exact rfl
          case vn70 => exact (fun R => .bool p2)
          case kn70 => exact (fun R => rfl)
          case gn70 => exact gd_none rfl
          intro R s w' hT hs hw ha
          go_simp
      case end70 =>
       intro sI R G w71 hI
       have hS := hI.same
       have hTT := hI.holds
       have hz0 := EE.out.size
       have P4 := P4.sameE hS (fun h => h) (by simp)
       have P8 := P8.sameE hS (fun h => h) (by simp)
       have P10 := P10.sameE hS (fun h => h) (by simp)
       have P12 := P12.sameE hS (fun h => h) (by simp)
       have P14 := P14.sameE hS (fun h => h) (by simp)
       have P16 := P16.sameE hS (fun h => h) (by simp)
       have P18 : Blk w71 (G 7) 40 H := (hI.fulls 8 (List.mem_range.2 (show 8 < 10 by decide)) 7 rfl).2.2
       have hmP18 := (hI.made 7 (List.mem_range.2 (show 7 < 10 by decide)) rfl).1
       have P18_lo : W.heap.size ≤ G 7 := Nat.le_trans hz0 hmP18
       have ngP4_18 : g0 ≠ G 7 := by omega
       have ngP8_18 : g0 + 1 ≠ G 7 := by omega
       have ngP10_18 : g10 ≠ G 7 := by omega
       have ngP12_18 : g12 ≠ G 7 := by omega
       have ngP14_18 : g14 ≠ G 7 := by omega
       have ngP16_18 : g16 ≠ G 7 := by omega
       have EE := hide (show Ext _ _ from hTT)
       clear hS hz0 hTT hI
       generalize hF : putE _ _ _ _ _ _ _ = FF
       have hF2 : FF = { tmps := #[.agg B, .int .i64 v, .int .i64 ep, .int .u64 (dt : Int), .pointer (some ⟨g0, 0, none⟩), undef, undef, undef, .pointer (some ⟨g0 + 1, 0, none⟩), .bool false, .pointer (some ⟨g10, 0, none⟩), .bool o1, .pointer (some ⟨g12, 0, none⟩), .bool o2, .pointer (some ⟨g14, 0, none⟩), .bool o3, .pointer (some ⟨g16, 0, none⟩), .bool p1, .pointer (some ⟨G 7, 0, none⟩), .bool p2, .agg B, .bool true, .bool false, .bool false, .int .i64 ep, .bool false, .bool false, .bool false, .int .i64 ep, .bool false, .bool false, .bool false, .int .u64 (dt : Int), .bool false, .bool false, undef, .tuple #[.agg D, .bool o1], .int .i64 v, .agg V, .agg B, .tuple #[.agg D, .bool o1], .agg D, .bool o1, .tuple #[.agg Lo, .bool o2], .agg D, .int .i64 ep, .agg Ep, .tuple #[.agg Lo, .bool o2], .agg Lo, .bool o2, .tuple #[.agg Hi, .bool o3], .agg D, .int .i64 ep, .agg Ep, .tuple #[.agg Hi, .bool o3], .agg Hi, .bool o3, .tuple #[.agg L, .bool p1], .agg Lo, .int .u64 (dt : Int), .agg U, .tuple #[.agg L, .bool p1], .agg L, .bool p1, .tuple #[.agg H, .bool p2], .agg Hi, .int .u64 (dt : Int), .agg U, .tuple #[.agg H, .bool p2], .agg H, .bool p2, undef, undef, undef], defers := [] } := by subst hF; kernel_rfl
       clear hF
       subst hF2
       generalize G 7 = g18 at *
       go_upto_region 8 with fail
       have P4_lt := P4.lt
       have P8_lt := P8.lt
       have P10_lt := P10.lt
       have P12_lt := P12.lt
       have P14_lt := P14.lt
       have P16_lt := P16.lt
       have P18_lt := P18.lt
       refine wp_evs [.q, .q, .q, .so 0, .q] [0, 0, 0, 0, 0] (fun R => [.agg L, .agg H, .agg (coneC false L H), undef, .bool true]) (fun _ => (.cells #[] 0 (0, 0))) (fun R _ => (.cells (coneC false L H) 42 (0, 0))) (fun _ => g0 + 1) (XE W) (fun _ => False) (by kernel_rfl) (by kernel_rfl) (by kernel_rfl) rfl (fun _ => rfl) (fun _ h => h.elim) (fun _ _ h => h) (by intro c hc; simp at hc; (try subst hc); (try simp only); omega) (by intro c c' h1 h2 _; simp at h1 h2; omega) (fun R R' => ⟨fun _ => rfl, fun _ => rfl, fun _ => rfl, fun _ => rfl, fun _ => rfl, trivial⟩) (fun _ _ _ _ => rfl) xe_below EE.out ?ops76 ?end76
       case ops76 =>
         refine ⟨?_, ?_, ?_, ?_, ?_, trivial⟩
         · refine er_q ?vn72 ?hn72 ?kn72 ?gn72 ?_
           case hn72 => exact rfl
           case vn72 => exact (fun R => .agg L)
           case kn72 => exact (fun R => rfl)
           case gn72 => exact gd_none rfl
           intro R s w' hT hs hw ha
           have L := ld_all (P16.sameE hw (fun h => h) (by intro c hc; simp at hc; (try subst hc); (try simp only); omega)) uRat rfl iRat sL
           generalize hA : putE _ _ _ _ _ _ _ = AA
           refine q_load rfl ?_ L
           subst hA
           kernel_rfl
         · refine er_q ?vn73 ?hn73 ?kn73 ?gn73 ?_
           case hn73 => exact rfl
           case vn73 => exact (fun R => .agg H)
           case kn73 => exact (fun R => rfl)
           case gn73 => exact gd_none rfl
           intro R s w' hT hs hw ha
           have L := ld_all (P18.sameE hw (fun h => h) (by intro c hc; simp at hc; (try subst hc); (try simp only); omega)) uRat rfl iRat sH
           generalize hA : putE _ _ _ _ _ _ _ = AA
           refine q_load rfl ?_ L
           subst hA
           kernel_rfl
         · refine er_q ?vn74 ?hn74 ?kn74 ?gn74 ?_
           case hn74 => exact rfl
           case vn74 => exact (fun R => .agg (coneC false L H))
           case kn74 => exact (fun R => rfl)
           case gn74 => exact gd_none rfl
           intro R s w' hT hs hw ha
           generalize hA : putE _ _ _ _ _ _ _ = AA
           refine build_cone rL rH rfl ?_ ?_
           · subst hA; kernel_rfl
           · subst hA; kernel_rfl
         · refine er_so (c := 0) (Ty := ?Tn75) (p := ?pn75) (x := ?xn75) (g0 + 1) ?fn75 ?un75 ?vn75 ?hn75 ?on75 ?kn75 ?ln75 ?gn75 ?dn75 ?en75 ?_
           case hn75 => exact rfl
           case on75 => exact rfl
           case fn75 => exact (fun R => (.cells (coneC false L H) 42 (0, 0)))
           case un75 => exact (fun R => .pointer (some ⟨g0 + 1, 0, none⟩))
           case vn75 => exact (fun R => .agg (coneC false L H))
           case kn75 => exact (fun R => rfl)
           case ln75 => exact rfl
           case gn75 => exact gd_none rfl
           case dn75 =>
             intro R
             kernel_rfl
           case en75 =>
             intro R
             kernel_rfl
           intro R s ρ w hT hs hp hx hz
           refine ⟨store_rowN (g := (g0 + 1)) rfl hp hx (hz.trans P8) iCone (rfl) (sC) (oC), fun w1 hF => ext_filled hT hF P8_lo⟩
         · refine er_q ?vn76 ?hn76 ?kn76 ?gn76 ?_
           case hn76 => exact rfl
           case vn76 => exact (fun R => .bool true)
           case kn76 => exact (fun R => rfl)
           case gn76 => exact gd_none rfl
           intro R s w' hT hs hw ha
           go_simp
       case end76 =>
        intro sI R G w77 hI
        have hS := hI.same
        have hTT := hI.holds
        have hz0 := EE.out.size
        have P4 := P4.sameE hS (fun h => h) (by intro c hc; simp at hc; (try subst hc); (try simp only); omega)
        have P10 := P10.sameE hS (fun h => h) (by intro c hc; simp at hc; (try subst hc); (try simp only); omega)
        have P12 := P12.sameE hS (fun h => h) (by intro c hc; simp at hc; (try subst hc); (try simp only); omega)
        have P14 := P14.sameE hS (fun h => h) (by intro c hc; simp at hc; (try subst hc); (try simp only); omega)
        have P16 := P16.sameE hS (fun h => h) (by intro c hc; simp at hc; (try subst hc); (try simp only); omega)
        have P18 := P18.sameE hS (fun h => h) (by intro c hc; simp at hc; (try subst hc); (try simp only); omega)
        have P8 : Blk w77 (g0 + 1) 42 (coneC false L H) := hI.olds' 3 (List.mem_range.2 (show 3 < 5 by decide)) 0 rfl
        have EE := hide (show Ext _ _ from hTT)
        clear hS hz0 hTT hI
        generalize hF : putE _ _ _ _ _ _ _ = FF
        have hF2 : FF = { tmps := #[.agg B, .int .i64 v, .int .i64 ep, .int .u64 (dt : Int), .pointer (some ⟨g0, 0, none⟩), undef, undef, undef, .pointer (some ⟨g0 + 1, 0, none⟩), .bool true, .pointer (some ⟨g10, 0, none⟩), .bool o1, .pointer (some ⟨g12, 0, none⟩), .bool o2, .pointer (some ⟨g14, 0, none⟩), .bool o3, .pointer (some ⟨g16, 0, none⟩), .bool p1, .pointer (some ⟨g18, 0, none⟩), .bool p2, .agg B, .bool true, .bool false, .bool false, .int .i64 ep, .bool false, .bool false, .bool false, .int .i64 ep, .bool false, .bool false, .bool false, .int .u64 (dt : Int), .bool false, .bool false, undef, .tuple #[.agg D, .bool o1], .int .i64 v, .agg V, .agg B, .tuple #[.agg D, .bool o1], .agg D, .bool o1, .tuple #[.agg Lo, .bool o2], .agg D, .int .i64 ep, .agg Ep, .tuple #[.agg Lo, .bool o2], .agg Lo, .bool o2, .tuple #[.agg Hi, .bool o3], .agg D, .int .i64 ep, .agg Ep, .tuple #[.agg Hi, .bool o3], .agg Hi, .bool o3, .tuple #[.agg L, .bool p1], .agg Lo, .int .u64 (dt : Int), .agg U, .tuple #[.agg L, .bool p1], .agg L, .bool p1, .tuple #[.agg H, .bool p2], .agg Hi, .int .u64 (dt : Int), .agg U, .tuple #[.agg H, .bool p2], .agg H, .bool p2, .agg L, .agg H, .agg (coneC false L H)], defers := [] } := by subst hF; kernel_rfl
        clear hF
        subst hF2
        go_wp2_with fail
        exact bodyPost_ret (res_row2 (p := 8) (u := 9) (ty := 42) rfl _ _ _ 42 (coneC false L H) _ rfl P8 uCone rfl (by rw [iCone, sC])) rfl ⟨by kernel_rfl, EE.out⟩
set_option maxHeartbeats 6400000 in
set_option maxRecDepth 100000 in
theorem pc_through1 (B : Array Value) (v ep : Int) (dt : Nat) (W : World) (sB : B.size = 5) (oB : B.all (·.oneCell') = true) (k1 : Hid (∀ w, Calls Try.prog 37 #[.agg B] w (Ret (.bool false) w))) :
   Calls Try.prog 17 #[.agg B, .int .i64 v, .int .i64 ep, .int .u64 (dt : Int)] W (Ret (.tuple #[.agg z21, .bool false]) W) := by
 have P4 := (Blk.new W 25 B).alloc (.cells z21 42)
 have P8 := Blk.new (W.alloc (.cells B 25)) 42 z21
 rw [alloc_size] at P8
 have EE := hide ((ext_alloc W (.cells B 25)).trans (ext_alloc _ (.cells z21 42)))
 obtain ⟨W1, hW1⟩ : ∃ W1, ((W.alloc (.cells B 25)).alloc (.cells z21 42)) = W1 := ⟨_, rfl⟩
 obtain ⟨g0, hg⟩ : ∃ g, W.heap.size = g := ⟨_, rfl⟩
 rw [hW1] at P4 P8 EE
 rw [hg] at P4 P8
 have P4_lo : W.heap.size ≤ g0 := by omega
 have P8_lo : W.heap.size ≤ g0 + 1 := by omega
 have HW := hide hW1
 have Hg := hide hg
 clear hW1 hg
 go_enter Try.func17, Try.ntmps17
 go_upto_region 1 with fail
 unfold z21 at HW
 rw [HW.out, Hg.out]
 clear HW Hg
 have P4_lt := P4.lt
 have P8_lt := P8.lt
 refine wp_evs [.q, .q, .q, .q, .sk, .sk, .q, .q, .sk, .sk, .q, .q, .sk, .sk, .q] [0, 0, 0, 0, 0, 0, 0, 0, 0, 0, 0, 0, 0, 0, 0] (fun R => [.agg B, .bool false, .bool true, .bool true, undef, undef, .bool true, .bool true, undef, undef, .bool true, .bool true, undef, undef, .bool true]) (fun _ => (.cells #[] 0 (0, 0))) (fun R _ => (.cells #[] 0 (0, 0))) (fun _ => 0) (XE W) (fun _ => False) (by kernel_rfl) (by kernel_rfl) (by kernel_rfl) rfl (fun _ => rfl) (fun _ h => h.elim) (fun _ _ h => h) (by simp) (by simp) (fun R R' => ⟨fun _ => rfl, fun _ => rfl, fun _ => rfl, fun _ => rfl, fun _ => rfl, fun _ => rfl, fun _ => rfl, fun _ => rfl, fun _ => rfl, fun _ => rfl, fun _ => rfl, fun _ => rfl, fun _ => rfl, fun _ => rfl, fun _ => rfl, trivial⟩) (fun _ _ _ _ => rfl) xe_below EE.out ?ops15 ?end15
 case ops15 =>
   refine ⟨?_, ?_, ?_, ?_, ?_, ?_, ?_, ?_, ?_, ?_, ?_, ?_, ?_, ?_, ?_, trivial⟩
   · refine er_q ?vn1 ?hn1 ?kn1 ?gn1 ?_
     case hn1 => exact rfl
     case vn1 => exact (fun R => .agg B)
     case kn1 => exact (fun R => rfl)
     case gn1 => exact gd_none rfl
     intro R s w' hT hs hw ha
     have L := ld_all (P4.sameE hw (fun h => h) (by simp)) uWide rfl iWide sB
     generalize hA : putE _ _ _ _ _ _ _ = AA
     refine q_load rfl ?_ L
     subst hA
     kernel_rfl
   · refine er_q ?vn2 ?hn2 ?kn2 ?gn2 ?_
     case hn2 => exact rfl
     case vn2 => exact (fun R => .bool false)
     case kn2 => exact (fun R => rfl)
     case gn2 => exact gd_none rfl
     intro R s w' hT hs hw ha
     go_simp
     exact k1.out w'
   · refine er_q ?vn3 ?hn3 ?kn3 ?gn3 ?_
     case hn3 => exact rfl
     case vn3 => exact (fun R => .bool true)
     case kn3 => exact (fun R => rfl)
     case gn3 => exact gd_none rfl
     intro R s w' hT hs hw ha
     go_simp
   · refine er_q ?vn4 ?hn4 ?kn4 ?gn4 ?_
     case hn4 => exact rfl
     case vn4 => exact (fun R => .bool true)
     case kn4 => exact (fun R => rfl)
     case gn4 => exact gd_none rfl
     intro R s w' hT hs hw ha
     go_simp
   · refine er_sk ?hn5 ?gn5
     case hn5 => exact rfl
     case gn5 => (refine gd_some rfl ?_; intro R; kernel_rfl)
   · refine er_sk ?hn6 ?gn6
     case hn6 => exact rfl
     case gn6 => (refine gd_some rfl ?_; intro R; kernel_rfl)
   · refine er_q ?vn7 ?hn7 ?kn7 ?gn7 ?_
     case hn7 => exact rfl
     case vn7 => exact (fun R => .bool true)
     case kn7 => exact (fun R => rfl)
     case gn7 => exact gd_none rfl
     intro R s w' hT hs hw ha
     go_simp
   · refine er_q ?vn8 ?hn8 ?kn8 ?gn8 ?_
     case hn8 => exact rfl
     case vn8 => exact (fun R => .bool true)
     case kn8 => exact (fun R => rfl)
     case gn8 => exact gd_none rfl
     intro R s w' hT hs hw ha
     go_simp
   · refine er_sk ?hn9 ?gn9
     case hn9 => exact rfl
     case gn9 => (refine gd_some rfl ?_; intro R; kernel_rfl)
   · refine er_sk ?hn10 ?gn10
     case hn10 => exact rfl
     case gn10 => (refine gd_some rfl ?_; intro R; kernel_rfl)
   · refine er_q ?vn11 ?hn11 ?kn11 ?gn11 ?_
     case hn11 => exact rfl
     case vn11 => exact (fun R => .bool true)
     case kn11 => exact (fun R => rfl)
     case gn11 => exact gd_none rfl
     intro R s w' hT hs hw ha
     go_simp
   · refine er_q ?vn12 ?hn12 ?kn12 ?gn12 ?_
     case hn12 => exact rfl
     case vn12 => exact (fun R => .bool true)
     case kn12 => exact (fun R => rfl)
     case gn12 => exact gd_none rfl
     intro R s w' hT hs hw ha
     go_simp
   · refine er_sk ?hn13 ?gn13
     case hn13 => exact rfl
     case gn13 => (refine gd_some rfl ?_; intro R; kernel_rfl)
   · refine er_sk ?hn14 ?gn14
     case hn14 => exact rfl
     case gn14 => (refine gd_some rfl ?_; intro R; kernel_rfl)
   · refine er_q ?vn15 ?hn15 ?kn15 ?gn15 ?_
     case hn15 => exact rfl
     case vn15 => exact (fun R => .bool true)
     case kn15 => exact (fun R => rfl)
     case gn15 => exact gd_none rfl
     intro R s w' hT hs hw ha
     go_simp
 case end15 =>
  intro sI R G w16 hI
  have hS := hI.same
  have hTT := hI.holds
  have hz0 := EE.out.size
  have P4 := P4.sameE hS (fun h => h) (by simp)
  have P8 := P8.sameE hS (fun h => h) (by simp)
  have EE := hide (show Ext _ _ from hTT)
  clear hS hz0 hTT hI
  generalize hF : putE _ _ _ _ _ _ _ = FF
  have hF2 : FF = { tmps := #[.agg B, .int .i64 v, .int .i64 ep, .int .u64 (dt : Int), .pointer (some ⟨g0, 0, none⟩), undef, undef, undef, .pointer (some ⟨g0 + 1, 0, none⟩), .bool false, undef, undef, undef, undef, undef, undef, undef, undef, undef, undef, .agg B, .bool false, .bool true, .bool true, undef, undef, .bool true, .bool true, undef, undef, .bool true, .bool true, undef, undef, .bool true, undef, undef, undef, undef, undef, undef, undef, undef, undef, undef, undef, undef, undef, undef, undef, undef, undef, undef, undef, undef, undef, undef, undef, undef, undef, undef, undef, undef, undef, undef, undef, undef, undef, undef, undef, undef, undef, undef, undef], defers := [] } := by subst hF; kernel_rfl
  clear hF
  subst hF2
  go_upto_region 2 with fail
  have P4_lt := P4.lt
  have P8_lt := P8.lt
  refine wp_evs [.q, .so 0, .q] [0, 0, 0] (fun R => [.agg z21, undef, .bool false]) (fun _ => (.cells #[] 0 (0, 0))) (fun R _ => (.cells z21 42 (0, 0))) (fun _ => g0 + 1) (XE W) (fun _ => False) (by kernel_rfl) (by kernel_rfl) (by kernel_rfl) rfl (fun _ => rfl) (fun _ h => h.elim) (fun _ _ h => h) (by intro c hc; simp at hc; (try subst hc); (try simp only); omega) (by intro c c' h1 h2 _; simp at h1 h2; omega) (fun R R' => ⟨fun _ => rfl, fun _ => rfl, fun _ => rfl, trivial⟩) (fun _ _ _ _ => rfl) xe_below EE.out ?ops19 ?end19
  case ops19 =>
    refine ⟨?_, ?_, ?_, trivial⟩
    · refine er_q ?vn17 ?hn17 ?kn17 ?gn17 ?_
      case hn17 => exact rfl
      case vn17 => exact (fun R => .agg z21)
      case kn17 => exact (fun R => rfl)
      case gn17 => exact gd_none rfl
      intro R s w' hT hs hw ha
      unfold z21
      go_simp
    · refine er_so (c := 0) (Ty := ?Tn18) (p := ?pn18) (x := ?xn18) (g0 + 1) ?fn18 ?un18 ?vn18 ?hn18 ?on18 ?kn18 ?ln18 ?gn18 ?dn18 ?en18 ?_
      case hn18 => exact rfl
      case on18 => exact rfl
      case fn18 => exact (fun R => (.cells z21 42 (0, 0)))
      case un18 => exact (fun R => .pointer (some ⟨g0 + 1, 0, none⟩))
      case vn18 => exact (fun R => .agg z21)
      case kn18 => exact (fun R => rfl)
      case ln18 => exact rfl
      case gn18 => exact gd_none rfl
      case dn18 =>
        intro R
        kernel_rfl
      case en18 =>
        intro R
        kernel_rfl
      intro R s ρ w hT hs hp hx hz
      refine ⟨store_rowN (g := (g0 + 1)) rfl hp hx (hz.trans P8) iCone (rfl) (rfl) (z21_one), fun w1 hF => ext_filled hT hF P8_lo⟩
    · refine er_q ?vn19 ?hn19 ?kn19 ?gn19 ?_
      case hn19 => exact rfl
      case vn19 => exact (fun R => .bool false)
      case kn19 => exact (fun R => rfl)
      case gn19 => exact gd_none rfl
      intro R s w' hT hs hw ha
      go_simp
  case end19 =>
   intro sI R G w20 hI
   have hS := hI.same
   have hTT := hI.holds
   have hz0 := EE.out.size
   have P4 := P4.sameE hS (fun h => h) (by intro c hc; simp at hc; (try subst hc); (try simp only); omega)
   have P8 : Blk w20 (g0 + 1) 42 z21 := hI.olds' 1 (List.mem_range.2 (show 1 < 3 by decide)) 0 rfl
   have EE := hide (show Ext _ _ from hTT)
   clear hS hz0 hTT hI
   generalize hF : putE _ _ _ _ _ _ _ = FF
   have hF2 : FF = { tmps := #[.agg B, .int .i64 v, .int .i64 ep, .int .u64 (dt : Int), .pointer (some ⟨g0, 0, none⟩), undef, undef, undef, .pointer (some ⟨g0 + 1, 0, none⟩), .bool false, undef, undef, undef, undef, undef, undef, undef, undef, undef, undef, .agg B, .bool false, .bool true, .bool true, undef, undef, .bool true, .bool true, undef, undef, .bool true, .bool true, undef, undef, .bool true, .agg z21, undef, undef, undef, undef, undef, undef, undef, undef, undef, undef, undef, undef, undef, undef, undef, undef, undef, undef, undef, undef, undef, undef, undef, undef, undef, undef, undef, undef, undef, undef, undef, undef, undef, undef, undef, undef, undef, undef], defers := [] } := by subst hF; kernel_rfl
   clear hF
   subst hF2
   go_wp2_with fail
   exact bodyPost_ret (res_row2 (p := 8) (u := 9) (ty := 42) rfl _ _ _ 42 z21 _ rfl P8 uCone rfl rfl) rfl ⟨by kernel_rfl, EE.out⟩
set_option maxHeartbeats 6400000 in
set_option maxRecDepth 100000 in
theorem pc_through2 (B : Array Value) (v ep : Int) (dt : Nat) (W : World) (sB : B.size = 5) (oB : B.all (·.oneCell') = true) (k1 : Hid (∀ w, Calls Try.prog 37 #[.agg B] w (Ret (.bool true) w))) (he : ep < 0) :
   Calls Try.prog 17 #[.agg B, .int .i64 v, .int .i64 ep, .int .u64 (dt : Int)] W (Ret (.tuple #[.agg z21, .bool false]) W) := by
 have d1 : decide (ep < 0) = true := decide_eq_true he
 have P4 := (Blk.new W 25 B).alloc (.cells z21 42)
 have P8 := Blk.new (W.alloc (.cells B 25)) 42 z21
 rw [alloc_size] at P8
 have EE := hide ((ext_alloc W (.cells B 25)).trans (ext_alloc _ (.cells z21 42)))
 obtain ⟨W1, hW1⟩ : ∃ W1, ((W.alloc (.cells B 25)).alloc (.cells z21 42)) = W1 := ⟨_, rfl⟩
 obtain ⟨g0, hg⟩ : ∃ g, W.heap.size = g := ⟨_, rfl⟩
 rw [hW1] at P4 P8 EE
 rw [hg] at P4 P8
 have P4_lo : W.heap.size ≤ g0 := by omega
 have P8_lo : W.heap.size ≤ g0 + 1 := by omega
 have HW := hide hW1
 have Hg := hide hg
 clear hW1 hg
 go_enter Try.func17, Try.ntmps17
 go_upto_region 1 with fail
 unfold z21 at HW
 rw [HW.out, Hg.out]
 clear HW Hg
 have P4_lt := P4.lt
 have P8_lt := P8.lt
 refine wp_evs [.q, .q, .q, .q, .q, .q, .q, .q, .sk, .sk, .q, .q, .sk, .sk, .q] [0, 0, 0, 0, 0, 0, 0, 0, 0, 0, 0, 0, 0, 0, 0] (fun R => [.agg B, .bool true, .bool false, .bool false, .int .i64 ep, .bool true, .bool true, .bool true, undef, undef, .bool true, .bool true, undef, undef, .bool true]) (fun _ => (.cells #[] 0 (0, 0))) (fun R _ => (.cells #[] 0 (0, 0))) (fun _ => 0) (XE W) (fun _ => False) (by kernel_rfl) (by kernel_rfl) (by kernel_rfl) rfl (fun _ => rfl) (fun _ h => h.elim) (fun _ _ h => h) (by simp) (by simp) (fun R R' => ⟨fun _ => rfl, fun _ => rfl, fun _ => rfl, fun _ => rfl, fun _ => rfl, fun _ => rfl, fun _ => rfl, fun _ => rfl, fun _ => rfl, fun _ => rfl, fun _ => rfl, fun _ => rfl, fun _ => rfl, fun _ => rfl, fun _ => rfl, trivial⟩) (fun _ _ _ _ => rfl) xe_below EE.out ?ops15 ?end15
 case ops15 =>
   refine ⟨?_, ?_, ?_, ?_, ?_, ?_, ?_, ?_, ?_, ?_, ?_, ?_, ?_, ?_, ?_, trivial⟩
   · refine er_q ?vn1 ?hn1 ?kn1 ?gn1 ?_
     case hn1 => exact rfl
     case vn1 => exact (fun R => .agg B)
     case kn1 => exact (fun R => rfl)
     case gn1 => exact gd_none rfl
     intro R s w' hT hs hw ha
     have L := ld_all (P4.sameE hw (fun h => h) (by simp)) uWide rfl iWide sB
     generalize hA : putE _ _ _ _ _ _ _ = AA
     refine q_load rfl ?_ L
     subst hA
     kernel_rfl
   · refine er_q ?vn2 ?hn2 ?kn2 ?gn2 ?_
     case hn2 => exact rfl
     case vn2 => exact (fun R => .bool true)
     case kn2 => exact (fun R => rfl)
     case gn2 => exact gd_none rfl
     intro R s w' hT hs hw ha
     go_simp
     exact k1.out w'
   · refine er_q ?vn3 ?hn3 ?kn3 ?gn3 ?_
     case hn3 => exact rfl
     case vn3 => exact (fun R => .bool false)
     case kn3 => exact (fun R => rfl)
     case gn3 => exact gd_none rfl
     intro R s w' hT hs hw ha
     go_simp
   · refine er_q ?vn4 ?hn4 ?kn4 ?gn4 ?_
     case hn4 => exact rfl
     case vn4 => exact (fun R => .bool false)
     case kn4 => exact (fun R => rfl)
     case gn4 => exact gd_none rfl
     intro R s w' hT hs hw ha
     go_simp
   · refine er_q ?vn5 ?hn5 ?kn5 ?gn5 ?_
     case hn5 => exact rfl
     case vn5 => exact (fun R => .int .i64 ep)
     case kn5 => exact (fun R => rfl)
     case gn5 => (refine gd_some rfl ?_; intro R; kernel_rfl)
     intro R s w' hT hs hw ha
     go_simp
   · refine er_q ?vn6 ?hn6 ?kn6 ?gn6 ?_
     case hn6 => exact rfl
     case vn6 => exact (fun R => .bool true)
     case kn6 => exact (fun R => rfl)
     case gn6 => (refine gd_some rfl ?_; intro R; kernel_rfl)
     intro R s w' hT hs hw ha
     go_simp
   · refine er_q ?vn7 ?hn7 ?kn7 ?gn7 ?_
     case hn7 => exact rfl
     case vn7 => exact (fun R => .bool true)
     case kn7 => exact (fun R => rfl)
     case gn7 => exact gd_none rfl
     intro R s w' hT hs hw ha
     go_simp
   · refine er_q ?vn8 ?hn8 ?kn8 ?gn8 ?_
     case hn8 => exact rfl
     case vn8 => exact (fun R => .bool true)
     case kn8 => exact (fun R => rfl)
     case gn8 => exact gd_none rfl
     intro R s w' hT hs hw ha
     go_simp
   · refine er_sk ?hn9 ?gn9
     case hn9 => exact rfl
     case gn9 => (refine gd_some rfl ?_; intro R; kernel_rfl)
   · refine er_sk ?hn10 ?gn10
     case hn10 => exact rfl
     case gn10 => (refine gd_some rfl ?_; intro R; kernel_rfl)
   · refine er_q ?vn11 ?hn11 ?kn11 ?gn11 ?_
     case hn11 => exact rfl
     case vn11 => exact (fun R => .bool true)
     case kn11 => exact (fun R => rfl)
     case gn11 => exact gd_none rfl
     intro R s w' hT hs hw ha
     go_simp
   · refine er_q ?vn12 ?hn12 ?kn12 ?gn12 ?_
     case hn12 => exact rfl
     case vn12 => exact (fun R => .bool true)
     case kn12 => exact (fun R => rfl)
     case gn12 => exact gd_none rfl
     intro R s w' hT hs hw ha
     go_simp
   · refine er_sk ?hn13 ?gn13
     case hn13 => exact rfl
     case gn13 => (refine gd_some rfl ?_; intro R; kernel_rfl)
   · refine er_sk ?hn14 ?gn14
     case hn14 => exact rfl
     case gn14 => (refine gd_some rfl ?_; intro R; kernel_rfl)
   · refine er_q ?vn15 ?hn15 ?kn15 ?gn15 ?_
     case hn15 => exact rfl
     case vn15 => exact (fun R => .bool true)
     case kn15 => exact (fun R => rfl)
     case gn15 => exact gd_none rfl
     intro R s w' hT hs hw ha
     go_simp
 case end15 =>
  intro sI R G w16 hI
  have hS := hI.same
  have hTT := hI.holds
  have hz0 := EE.out.size
  have P4 := P4.sameE hS (fun h => h) (by simp)
  have P8 := P8.sameE hS (fun h => h) (by simp)
  have EE := hide (show Ext _ _ from hTT)
  clear hS hz0 hTT hI
  generalize hF : putE _ _ _ _ _ _ _ = FF
  have hF2 : FF = { tmps := #[.agg B, .int .i64 v, .int .i64 ep, .int .u64 (dt : Int), .pointer (some ⟨g0, 0, none⟩), undef, undef, undef, .pointer (some ⟨g0 + 1, 0, none⟩), .bool false, undef, undef, undef, undef, undef, undef, undef, undef, undef, undef, .agg B, .bool true, .bool false, .bool false, .int .i64 ep, .bool true, .bool true, .bool true, undef, undef, .bool true, .bool true, undef, undef, .bool true, undef, undef, undef, undef, undef, undef, undef, undef, undef, undef, undef, undef, undef, undef, undef, undef, undef, undef, undef, undef, undef, undef, undef, undef, undef, undef, undef, undef, undef, undef, undef, undef, undef, undef, undef, undef, undef, undef, undef], defers := [] } := by subst hF; kernel_rfl
  clear hF
  subst hF2
  go_upto_region 2 with fail
  have P4_lt := P4.lt
  have P8_lt := P8.lt
  refine wp_evs [.q, .so 0, .q] [0, 0, 0] (fun R => [.agg z21, undef, .bool false]) (fun _ => (.cells #[] 0 (0, 0))) (fun R _ => (.cells z21 42 (0, 0))) (fun _ => g0 + 1) (XE W) (fun _ => False) (by kernel_rfl) (by kernel_rfl) (by kernel_rfl) rfl (fun _ => rfl) (fun _ h => h.elim) (fun _ _ h => h) (by intro c hc; simp at hc; (try subst hc); (try simp only); omega) (by intro c c' h1 h2 _; simp at h1 h2; omega) (fun R R' => ⟨fun _ => rfl, fun _ => rfl, fun _ => rfl, trivial⟩) (fun _ _ _ _ => rfl) xe_below EE.out ?ops19 ?end19
  case ops19 =>
    refine ⟨?_, ?_, ?_, trivial⟩
    · refine er_q ?vn17 ?hn17 ?kn17 ?gn17 ?_
      case hn17 => exact rfl
      case vn17 => exact (fun R => .agg z21)
      case kn17 => exact (fun R => rfl)
      case gn17 => exact gd_none rfl
      intro R s w' hT hs hw ha
      unfold z21
      go_simp
    · refine er_so (c := 0) (Ty := ?Tn18) (p := ?pn18) (x := ?xn18) (g0 + 1) ?fn18 ?un18 ?vn18 ?hn18 ?on18 ?kn18 ?ln18 ?gn18 ?dn18 ?en18 ?_
      case hn18 => exact rfl
      case on18 => exact rfl
      case fn18 => exact (fun R => (.cells z21 42 (0, 0)))
      case un18 => exact (fun R => .pointer (some ⟨g0 + 1, 0, none⟩))
      case vn18 => exact (fun R => .agg z21)
      case kn18 => exact (fun R => rfl)
      case ln18 => exact rfl
      case gn18 => exact gd_none rfl
      case dn18 =>
        intro R
        kernel_rfl
      case en18 =>
        intro R
        kernel_rfl
      intro R s ρ w hT hs hp hx hz
      refine ⟨store_rowN (g := (g0 + 1)) rfl hp hx (hz.trans P8) iCone (rfl) (rfl) (z21_one), fun w1 hF => ext_filled hT hF P8_lo⟩
    · refine er_q ?vn19 ?hn19 ?kn19 ?gn19 ?_
      case hn19 => exact rfl
      case vn19 => exact (fun R => .bool false)
      case kn19 => exact (fun R => rfl)
      case gn19 => exact gd_none rfl
      intro R s w' hT hs hw ha
      go_simp
  case end19 =>
   intro sI R G w20 hI
   have hS := hI.same
   have hTT := hI.holds
   have hz0 := EE.out.size
   have P4 := P4.sameE hS (fun h => h) (by intro c hc; simp at hc; (try subst hc); (try simp only); omega)
   have P8 : Blk w20 (g0 + 1) 42 z21 := hI.olds' 1 (List.mem_range.2 (show 1 < 3 by decide)) 0 rfl
   have EE := hide (show Ext _ _ from hTT)
   clear hS hz0 hTT hI
   generalize hF : putE _ _ _ _ _ _ _ = FF
   have hF2 : FF = { tmps := #[.agg B, .int .i64 v, .int .i64 ep, .int .u64 (dt : Int), .pointer (some ⟨g0, 0, none⟩), undef, undef, undef, .pointer (some ⟨g0 + 1, 0, none⟩), .bool false, undef, undef, undef, undef, undef, undef, undef, undef, undef, undef, .agg B, .bool true, .bool false, .bool false, .int .i64 ep, .bool true, .bool true, .bool true, undef, undef, .bool true, .bool true, undef, undef, .bool true, .agg z21, undef, undef, undef, undef, undef, undef, undef, undef, undef, undef, undef, undef, undef, undef, undef, undef, undef, undef, undef, undef, undef, undef, undef, undef, undef, undef, undef, undef, undef, undef, undef, undef, undef, undef, undef, undef, undef, undef], defers := [] } := by subst hF; kernel_rfl
   clear hF
   subst hF2
   go_wp2_with fail
   exact bodyPost_ret (res_row2 (p := 8) (u := 9) (ty := 42) rfl _ _ _ 42 z21 _ rfl P8 uCone rfl rfl) rfl ⟨by kernel_rfl, EE.out⟩
set_option maxHeartbeats 6400000 in
set_option maxRecDepth 100000 in
theorem pc_through3 (B : Array Value) (v ep : Int) (dt : Nat) (W : World) (sB : B.size = 5) (oB : B.all (·.oneCell') = true) (k1 : Hid (∀ w, Calls Try.prog 37 #[.agg B] w (Ret (.bool true) w))) (he : 4611686018427387904 < ep) :
   Calls Try.prog 17 #[.agg B, .int .i64 v, .int .i64 ep, .int .u64 (dt : Int)] W (Ret (.tuple #[.agg z21, .bool false]) W) := by
 have d1 : decide (ep < 0) = false := decide_eq_false (by omega)
 have d2 : decide (4611686018427387904 < ep) = true := decide_eq_true he
 have P4 := (Blk.new W 25 B).alloc (.cells z21 42)
 have P8 := Blk.new (W.alloc (.cells B 25)) 42 z21
 rw [alloc_size] at P8
 have EE := hide ((ext_alloc W (.cells B 25)).trans (ext_alloc _ (.cells z21 42)))
 obtain ⟨W1, hW1⟩ : ∃ W1, ((W.alloc (.cells B 25)).alloc (.cells z21 42)) = W1 := ⟨_, rfl⟩
 obtain ⟨g0, hg⟩ : ∃ g, W.heap.size = g := ⟨_, rfl⟩
 rw [hW1] at P4 P8 EE
 rw [hg] at P4 P8
 have P4_lo : W.heap.size ≤ g0 := by omega
 have P8_lo : W.heap.size ≤ g0 + 1 := by omega
 have HW := hide hW1
 have Hg := hide hg
 clear hW1 hg
 go_enter Try.func17, Try.ntmps17
 go_upto_region 1 with fail
 unfold z21 at HW
 rw [HW.out, Hg.out]
 clear HW Hg
 have P4_lt := P4.lt
 have P8_lt := P8.lt
 refine wp_evs [.q, .q, .q, .q, .q, .q, .q, .q, .q, .q, .q, .q, .sk, .sk, .q] [0, 0, 0, 0, 0, 0, 0, 0, 0, 0, 0, 0, 0, 0, 0] (fun R => [.agg B, .bool true, .bool false, .bool false, .int .i64 ep, .bool false, .bool false, .bool false, .int .i64 ep, .bool true, .bool true, .bool true, undef, undef, .bool true]) (fun _ => (.cells #[] 0 (0, 0))) (fun R _ => (.cells #[] 0 (0, 0))) (fun _ => 0) (XE W) (fun _ => False) (by kernel_rfl) (by kernel_rfl) (by kernel_rfl) rfl (fun _ => rfl) (fun _ h => h.elim) (fun _ _ h => h) (by simp) (by simp) (fun R R' => ⟨fun _ => rfl, fun _ => rfl, fun _ => rfl, fun _ => rfl, fun _ => rfl, fun _ => rfl, fun _ => rfl, fun _ => rfl, fun _ => rfl, fun _ => rfl, fun _ => rfl, fun _ => rfl, fun _ => rfl, fun _ => rfl, fun _ => rfl, trivial⟩) (fun _ _ _ _ => rfl) xe_below EE.out ?ops15 ?end15
 case ops15 =>
   refine ⟨?_, ?_, ?_, ?_, ?_, ?_, ?_, ?_, ?_, ?_, ?_, ?_, ?_, ?_, ?_, trivial⟩
   · refine er_q ?vn1 ?hn1 ?kn1 ?gn1 ?_
     case hn1 => exact rfl
     case vn1 => exact (fun R => .agg B)
     case kn1 => exact (fun R => rfl)
     case gn1 => exact gd_none rfl
     intro R s w' hT hs hw ha
     have L := ld_all (P4.sameE hw (fun h => h) (by simp)) uWide rfl iWide sB
     generalize hA : putE _ _ _ _ _ _ _ = AA
     refine q_load rfl ?_ L
     subst hA
     kernel_rfl
   · refine er_q ?vn2 ?hn2 ?kn2 ?gn2 ?_
     case hn2 => exact rfl
     case vn2 => exact (fun R => .bool true)
     case kn2 => exact (fun R => rfl)
     case gn2 => exact gd_none rfl
     intro R s w' hT hs hw ha
     go_simp
     exact k1.out w'
   · refine er_q ?vn3 ?hn3 ?kn3 ?gn3 ?_
     case hn3 => exact rfl
     case vn3 => exact (fun R => .bool false)
     case kn3 => exact (fun R => rfl)
     case gn3 => exact gd_none rfl
     intro R s w' hT hs hw ha
     go_simp
   · refine er_q ?vn4 ?hn4 ?kn4 ?gn4 ?_
     case hn4 => exact rfl
     case vn4 => exact (fun R => .bool false)
     case kn4 => exact (fun R => rfl)
     case gn4 => exact gd_none rfl
     intro R s w' hT hs hw ha
     go_simp
   · refine er_q ?vn5 ?hn5 ?kn5 ?gn5 ?_
     case hn5 => exact rfl
     case vn5 => exact (fun R => .int .i64 ep)
     case kn5 => exact (fun R => rfl)
     case gn5 => (refine gd_some rfl ?_; intro R; kernel_rfl)
     intro R s w' hT hs hw ha
     go_simp
   · refine er_q ?vn6 ?hn6 ?kn6 ?gn6 ?_
     case hn6 => exact rfl
     case vn6 => exact (fun R => .bool false)
     case kn6 => exact (fun R => rfl)
     case gn6 => (refine gd_some rfl ?_; intro R; kernel_rfl)
     intro R s w' hT hs hw ha
     go_simp
   · refine er_q ?vn7 ?hn7 ?kn7 ?gn7 ?_
     case hn7 => exact rfl
     case vn7 => exact (fun R => .bool false)
     case kn7 => exact (fun R => rfl)
     case gn7 => exact gd_none rfl
     intro R s w' hT hs hw ha
     go_simp
   · refine er_q ?vn8 ?hn8 ?kn8 ?gn8 ?_
     case hn8 => exact rfl
     case vn8 => exact (fun R => .bool false)
     case kn8 => exact (fun R => rfl)
     case gn8 => exact gd_none rfl
     intro R s w' hT hs hw ha
     go_simp
   · refine er_q ?vn9 ?hn9 ?kn9 ?gn9 ?_
     case hn9 => exact rfl
     case vn9 => exact (fun R => .int .i64 ep)
     case kn9 => exact (fun R => rfl)
     case gn9 => (refine gd_some rfl ?_; intro R; kernel_rfl)
     intro R s w' hT hs hw ha
     go_simp
   · refine er_q ?vn10 ?hn10 ?kn10 ?gn10 ?_
     case hn10 => exact rfl
     case vn10 => exact (fun R => .bool true)
     case kn10 => exact (fun R => rfl)
     case gn10 => (refine gd_some rfl ?_; intro R; kernel_rfl)
     intro R s w' hT hs hw ha
     go_simp
   · refine er_q ?vn11 ?hn11 ?kn11 ?gn11 ?_
     case hn11 => exact rfl
     case vn11 => exact (fun R => .bool true)
     case kn11 => exact (fun R => rfl)
     case gn11 => exact gd_none rfl
     intro R s w' hT hs hw ha
     go_simp
   · refine er_q ?vn12 ?hn12 ?kn12 ?gn12 ?_
     case hn12 => exact rfl
     case vn12 => exact (fun R => .bool true)
     case kn12 => exact (fun R => rfl)
     case gn12 => exact gd_none rfl
     intro R s w' hT hs hw ha
     go_simp
   · refine er_sk ?hn13 ?gn13
     case hn13 => exact rfl
     case gn13 => (refine gd_some rfl ?_; intro R; kernel_rfl)
   · refine er_sk ?hn14 ?gn14
     case hn14 => exact rfl
     case gn14 => (refine gd_some rfl ?_; intro R; kernel_rfl)
   · refine er_q ?vn15 ?hn15 ?kn15 ?gn15 ?_
     case hn15 => exact rfl
     case vn15 => exact (fun R => .bool true)
     case kn15 => exact (fun R => rfl)
     case gn15 => exact gd_none rfl
     intro R s w' hT hs hw ha
     go_simp
 case end15 =>
  intro sI R G w16 hI
  have hS := hI.same
  have hTT := hI.holds
  have hz0 := EE.out.size
  have P4 := P4.sameE hS (fun h => h) (by simp)
  have P8 := P8.sameE hS (fun h => h) (by simp)
  have EE := hide (show Ext _ _ from hTT)
  clear hS hz0 hTT hI
  generalize hF : putE _ _ _ _ _ _ _ = FF
  have hF2 : FF = { tmps := #[.agg B, .int .i64 v, .int .i64 ep, .int .u64 (dt : Int), .pointer (some ⟨g0, 0, none⟩), undef, undef, undef, .pointer (some ⟨g0 + 1, 0, none⟩), .bool false, undef, undef, undef, undef, undef, undef, undef, undef, undef, undef, .agg B, .bool true, .bool false, .bool false, .int .i64 ep, .bool false, .bool false, .bool false, .int .i64 ep, .bool true, .bool true, .bool true, undef, undef, .bool true, undef, undef, undef, undef, undef, undef, undef, undef, undef, undef, undef, undef, undef, undef, undef, undef, undef, undef, undef, undef, undef, undef, undef, undef, undef, undef, undef, undef, undef, undef, undef, undef, undef, undef, undef, undef, undef, undef, undef], defers := [] } := by subst hF; kernel_rfl
  clear hF
  subst hF2
  go_upto_region 2 with fail
  have P4_lt := P4.lt
  have P8_lt := P8.lt
  refine wp_evs [.q, .so 0, .q] [0, 0, 0] (fun R => [.agg z21, undef, .bool false]) (fun _ => (.cells #[] 0 (0, 0))) (fun R _ => (.cells z21 42 (0, 0))) (fun _ => g0 + 1) (XE W) (fun _ => False) (by kernel_rfl) (by kernel_rfl) (by kernel_rfl) rfl (fun _ => rfl) (fun _ h => h.elim) (fun _ _ h => h) (by intro c hc; simp at hc; (try subst hc); (try simp only); omega) (by intro c c' h1 h2 _; simp at h1 h2; omega) (fun R R' => ⟨fun _ => rfl, fun _ => rfl, fun _ => rfl, trivial⟩) (fun _ _ _ _ => rfl) xe_below EE.out ?ops19 ?end19
  case ops19 =>
    refine ⟨?_, ?_, ?_, trivial⟩
    · refine er_q ?vn17 ?hn17 ?kn17 ?gn17 ?_
      case hn17 => exact rfl
      case vn17 => exact (fun R => .agg z21)
      case kn17 => exact (fun R => rfl)
      case gn17 => exact gd_none rfl
      intro R s w' hT hs hw ha
      unfold z21
      go_simp
    · refine er_so (c := 0) (Ty := ?Tn18) (p := ?pn18) (x := ?xn18) (g0 + 1) ?fn18 ?un18 ?vn18 ?hn18 ?on18 ?kn18 ?ln18 ?gn18 ?dn18 ?en18 ?_
      case hn18 => exact rfl
      case on18 => exact rfl
      case fn18 => exact (fun R => (.cells z21 42 (0, 0)))
      case un18 => exact (fun R => .pointer (some ⟨g0 + 1, 0, none⟩))
      case vn18 => exact (fun R => .agg z21)
      case kn18 => exact (fun R => rfl)
      case ln18 => exact rfl
      case gn18 => exact gd_none rfl
      case dn18 =>
        intro R
        kernel_rfl
      case en18 =>
        intro R
        kernel_rfl
      intro R s ρ w hT hs hp hx hz
      refine ⟨store_rowN (g := (g0 + 1)) rfl hp hx (hz.trans P8) iCone (rfl) (rfl) (z21_one), fun w1 hF => ext_filled hT hF P8_lo⟩
    · refine er_q ?vn19 ?hn19 ?kn19 ?gn19 ?_
      case hn19 => exact rfl
      case vn19 => exact (fun R => .bool false)
      case kn19 => exact (fun R => rfl)
      case gn19 => exact gd_none rfl
      intro R s w' hT hs hw ha
      go_simp
  case end19 =>
   intro sI R G w20 hI
   have hS := hI.same
   have hTT := hI.holds
   have hz0 := EE.out.size
   have P4 := P4.sameE hS (fun h => h) (by intro c hc; simp at hc; (try subst hc); (try simp only); omega)
   have P8 : Blk w20 (g0 + 1) 42 z21 := hI.olds' 1 (List.mem_range.2 (show 1 < 3 by decide)) 0 rfl
   have EE := hide (show Ext _ _ from hTT)
   clear hS hz0 hTT hI
   generalize hF : putE _ _ _ _ _ _ _ = FF
   have hF2 : FF = { tmps := #[.agg B, .int .i64 v, .int .i64 ep, .int .u64 (dt : Int), .pointer (some ⟨g0, 0, none⟩), undef, undef, undef, .pointer (some ⟨g0 + 1, 0, none⟩), .bool false, undef, undef, undef, undef, undef, undef, undef, undef, undef, undef, .agg B, .bool true, .bool false, .bool false, .int .i64 ep, .bool false, .bool false, .bool false, .int .i64 ep, .bool true, .bool true, .bool true, undef, undef, .bool true, .agg z21, undef, undef, undef, undef, undef, undef, undef, undef, undef, undef, undef, undef, undef, undef, undef, undef, undef, undef, undef, undef, undef, undef, undef, undef, undef, undef, undef, undef, undef, undef, undef, undef, undef, undef, undef, undef, undef, undef], defers := [] } := by subst hF; kernel_rfl
   clear hF
   subst hF2
   go_wp2_with fail
   exact bodyPost_ret (res_row2 (p := 8) (u := 9) (ty := 42) rfl _ _ _ 42 z21 _ rfl P8 uCone rfl rfl) rfl ⟨by kernel_rfl, EE.out⟩
set_option maxHeartbeats 6400000 in
set_option maxRecDepth 100000 in
theorem pc_through4 (B : Array Value) (v ep : Int) (dt : Nat) (W : World) (sB : B.size = 5) (oB : B.all (·.oneCell') = true) (k1 : Hid (∀ w, Calls Try.prog 37 #[.agg B] w (Ret (.bool true) w))) (he : 0 ≤ ep) (he2 : ep ≤ 4611686018427387904) :
   Calls Try.prog 17 #[.agg B, .int .i64 v, .int .i64 ep, .int .u64 0] W (Ret (.tuple #[.agg z21, .bool false]) W) := by
 have d1 : decide (ep < 0) = false := decide_eq_false (by omega)
 have d2 : decide (4611686018427387904 < ep) = false := decide_eq_false (by omega)
 have P4 := (Blk.new W 25 B).alloc (.cells z21 42)
 have P8 := Blk.new (W.alloc (.cells B 25)) 42 z21
 rw [alloc_size] at P8
 have EE := hide ((ext_alloc W (.cells B 25)).trans (ext_alloc _ (.cells z21 42)))
 obtain ⟨W1, hW1⟩ : ∃ W1, ((W.alloc (.cells B 25)).alloc (.cells z21 42)) = W1 := ⟨_, rfl⟩
 obtain ⟨g0, hg⟩ : ∃ g, W.heap.size = g := ⟨_, rfl⟩
 rw [hW1] at P4 P8 EE
 rw [hg] at P4 P8
 have P4_lo : W.heap.size ≤ g0 := by omega
 have P8_lo : W.heap.size ≤ g0 + 1 := by omega
 have HW := hide hW1
 have Hg := hide hg
 clear hW1 hg
 go_enter Try.func17, Try.ntmps17
 go_upto_region 1 with fail
 unfold z21 at HW
 rw [HW.out, Hg.out]
 clear HW Hg
 have P4_lt := P4.lt
 have P8_lt := P8.lt
 refine wp_evs [.q, .q, .q, .q, .q, .q, .q, .q, .q, .q, .q, .q, .q, .q, .q] [0, 0, 0, 0, 0, 0, 0, 0, 0, 0, 0, 0, 0, 0, 0] (fun R => [.agg B, .bool true, .bool false, .bool false, .int .i64 ep, .bool false, .bool false, .bool false, .int .i64 ep, .bool false, .bool false, .bool false, .int .u64 0, .bool true, .bool true]) (fun _ => (.cells #[] 0 (0, 0))) (fun R _ => (.cells #[] 0 (0, 0))) (fun _ => 0) (XE W) (fun _ => False) (by kernel_rfl) (by kernel_rfl) (by kernel_rfl) rfl (fun _ => rfl) (fun _ h => h.elim) (fun _ _ h => h) (by simp) (by simp) (fun R R' => ⟨fun _ => rfl, fun _ => rfl, fun _ => rfl, fun _ => rfl, fun _ => rfl, fun _ => rfl, fun _ => rfl, fun _ => rfl, fun _ => rfl, fun _ => rfl, fun _ => rfl, fun _ => rfl, fun _ => rfl, fun _ => rfl, fun _ => rfl, trivial⟩) (fun _ _ _ _ => rfl) xe_below EE.out ?ops15 ?end15
 case ops15 =>
   refine ⟨?_, ?_, ?_, ?_, ?_, ?_, ?_, ?_, ?_, ?_, ?_, ?_, ?_, ?_, ?_, trivial⟩
   · refine er_q ?vn1 ?hn1 ?kn1 ?gn1 ?_
     case hn1 => exact rfl
     case vn1 => exact (fun R => .agg B)
     case kn1 => exact (fun R => rfl)
     case gn1 => exact gd_none rfl
     intro R s w' hT hs hw ha
     have L := ld_all (P4.sameE hw (fun h => h) (by simp)) uWide rfl iWide sB
     generalize hA : putE _ _ _ _ _ _ _ = AA
     refine q_load rfl ?_ L
     subst hA
     kernel_rfl
   · refine er_q ?vn2 ?hn2 ?kn2 ?gn2 ?_
     case hn2 => exact rfl
     case vn2 => exact (fun R => .bool true)
     case kn2 => exact (fun R => rfl)
     case gn2 => exact gd_none rfl
     intro R s w' hT hs hw ha
     go_simp
     exact k1.out w'
   · refine er_q ?vn3 ?hn3 ?kn3 ?gn3 ?_
     case hn3 => exact rfl
     case vn3 => exact (fun R => .bool false)
     case kn3 => exact (fun R => rfl)
     case gn3 => exact gd_none rfl
     intro R s w' hT hs hw ha
     go_simp
   · refine er_q ?vn4 ?hn4 ?kn4 ?gn4 ?_
     case hn4 => exact rfl
     case vn4 => exact (fun R => .bool false)
     case kn4 => exact (fun R => rfl)
     case gn4 => exact gd_none rfl
     intro R s w' hT hs hw ha
     go_simp
   · refine er_q ?vn5 ?hn5 ?kn5 ?gn5 ?_
     case hn5 => exact rfl
     case vn5 => exact (fun R => .int .i64 ep)
     case kn5 => exact (fun R => rfl)
     case gn5 => (refine gd_some rfl ?_; intro R; kernel_rfl)
     intro R s w' hT hs hw ha
     go_simp
   · refine er_q ?vn6 ?hn6 ?kn6 ?gn6 ?_
     case hn6 => exact rfl
     case vn6 => exact (fun R => .bool false)
     case kn6 => exact (fun R => rfl)
     case gn6 => (refine gd_some rfl ?_; intro R; kernel_rfl)
     intro R s w' hT hs hw ha
     go_simp
   · refine er_q ?vn7 ?hn7 ?kn7 ?gn7 ?_
     case hn7 => exact rfl
     case vn7 => exact (fun R => .bool false)
     case kn7 => exact (fun R => rfl)
     case gn7 => exact gd_none rfl
     intro R s w' hT hs hw ha
     go_simp
   · refine er_q ?vn8 ?hn8 ?kn8 ?gn8 ?_
     case hn8 => exact rfl
     case vn8 => exact (fun R => .bool false)
     case kn8 => exact (fun R => rfl)
     case gn8 => exact gd_none rfl
     intro R s w' hT hs hw ha
     go_simp
   · refine er_q ?vn9 ?hn9 ?kn9 ?gn9 ?_
     case hn9 => exact rfl
     case vn9 => exact (fun R => .int .i64 ep)
     case kn9 => exact (fun R => rfl)
     case gn9 => (refine gd_some rfl ?_; intro R; kernel_rfl)
     intro R s w' hT hs hw ha
     go_simp
   · refine er_q ?vn10 ?hn10 ?kn10 ?gn10 ?_
     case hn10 => exact rfl
     case vn10 => exact (fun R => .bool false)
     case kn10 => exact (fun R => rfl)
     case gn10 => (refine gd_some rfl ?_; intro R; kernel_rfl)
     intro R s w' hT hs hw ha
     go_simp
   · refine er_q ?vn11 ?hn11 ?kn11 ?gn11 ?_
     case hn11 => exact rfl
     case vn11 => exact (fun R => .bool false)
     case kn11 => exact (fun R => rfl)
     case gn11 => exact gd_none rfl
     intro R s w' hT hs hw ha
     go_simp
   · refine er_q ?vn12 ?hn12 ?kn12 ?gn12 ?_
     case hn12 => exact rfl
     case vn12 => exact (fun R => .bool false)
     case kn12 => exact (fun R => rfl)
     case gn12 => exact gd_none rfl
     intro R s w' hT hs hw ha
     go_simp
   · refine er_q ?vn13 ?hn13 ?kn13 ?gn13 ?_
     case hn13 => exact rfl
     case vn13 => exact (fun R => .int .u64 0)
     case kn13 => exact (fun R => rfl)
     case gn13 => (refine gd_some rfl ?_; intro R; kernel_rfl)
     intro R s w' hT hs hw ha
     go_simp
   · refine er_q ?vn14 ?hn14 ?kn14 ?gn14 ?_
     case hn14 => exact rfl
     case vn14 => exact (fun R => .bool true)
     case kn14 => exact (fun R => rfl)
     case gn14 => (refine gd_some rfl ?_; intro R; kernel_rfl)
     intro R s w' hT hs hw ha
     go_simp
   · refine er_q ?vn15 ?hn15 ?kn15 ?gn15 ?_
     case hn15 => exact rfl
     case vn15 => exact (fun R => .bool true)
     case kn15 => exact (fun R => rfl)
     case gn15 => exact gd_none rfl
     intro R s w' hT hs hw ha
     go_simp
 case end15 =>
  intro sI R G w16 hI
  have hS := hI.same
  have hTT := hI.holds
  have hz0 := EE.out.size
  have P4 := P4.sameE hS (fun h => h) (by simp)
  have P8 := P8.sameE hS (fun h => h) (by simp)
  have EE := hide (show Ext _ _ from hTT)
  clear hS hz0 hTT hI
  generalize hF : putE _ _ _ _ _ _ _ = FF
  have hF2 : FF = { tmps := #[.agg B, .int .i64 v, .int .i64 ep, .int .u64 0, .pointer (some ⟨g0, 0, none⟩), undef, undef, undef, .pointer (some ⟨g0 + 1, 0, none⟩), .bool false, undef, undef, undef, undef, undef, undef, undef, undef, undef, undef, .agg B, .bool true, .bool false, .bool false, .int .i64 ep, .bool false, .bool false, .bool false, .int .i64 ep, .bool false, .bool false, .bool false, .int .u64 0, .bool true, .bool true, undef, undef, undef, undef, undef, undef, undef, undef, undef, undef, undef, undef, undef, undef, undef, undef, undef, undef, undef, undef, undef, undef, undef, undef, undef, undef, undef, undef, undef, undef, undef, undef, undef, undef, undef, undef, undef, undef, undef], defers := [] } := by subst hF; kernel_rfl
  clear hF
  subst hF2
  go_upto_region 2 with fail
  have P4_lt := P4.lt
  have P8_lt := P8.lt
  refine wp_evs [.q, .so 0, .q] [0, 0, 0] (fun R => [.agg z21, undef, .bool false]) (fun _ => (.cells #[] 0 (0, 0))) (fun R _ => (.cells z21 42 (0, 0))) (fun _ => g0 + 1) (XE W) (fun _ => False) (by kernel_rfl) (by kernel_rfl) (by kernel_rfl) rfl (fun _ => rfl) (fun _ h => h.elim) (fun _ _ h => h) (by intro c hc; simp at hc; (try subst hc); (try simp only); omega) (by intro c c' h1 h2 _; simp at h1 h2; omega) (fun R R' => ⟨fun _ => rfl, fun _ => rfl, fun _ => rfl, trivial⟩) (fun _ _ _ _ => rfl) xe_below EE.out ?ops19 ?end19
  case ops19 =>
    refine ⟨?_, ?_, ?_, trivial⟩
    · refine er_q ?vn17 ?hn17 ?kn17 ?gn17 ?_
      case hn17 => exact rfl
      case vn17 => exact (fun R => .agg z21)
      case kn17 => exact (fun R => rfl)
      case gn17 => exact gd_none rfl
      intro R s w' hT hs hw ha
      unfold z21
      go_simp
    · refine er_so (c := 0) (Ty := ?Tn18) (p := ?pn18) (x := ?xn18) (g0 + 1) ?fn18 ?un18 ?vn18 ?hn18 ?on18 ?kn18 ?ln18 ?gn18 ?dn18 ?en18 ?_
      case hn18 => exact rfl
      case on18 => exact rfl
      case fn18 => exact (fun R => (.cells z21 42 (0, 0)))
      case un18 => exact (fun R => .pointer (some ⟨g0 + 1, 0, none⟩))
      case vn18 => exact (fun R => .agg z21)
      case kn18 => exact (fun R => rfl)
      case ln18 => exact rfl
      case gn18 => exact gd_none rfl
      case dn18 =>
        intro R
        kernel_rfl
      case en18 =>
        intro R
        kernel_rfl
      intro R s ρ w hT hs hp hx hz
      refine ⟨store_rowN (g := (g0 + 1)) rfl hp hx (hz.trans P8) iCone (rfl) (rfl) (z21_one), fun w1 hF => ext_filled hT hF P8_lo⟩
    · refine er_q ?vn19 ?hn19 ?kn19 ?gn19 ?_
      case hn19 => exact rfl
      case vn19 => exact (fun R => .bool false)
      case kn19 => exact (fun R => rfl)
      case gn19 => exact gd_none rfl
      intro R s w' hT hs hw ha
      go_simp
  case end19 =>
   intro sI R G w20 hI
   have hS := hI.same
   have hTT := hI.holds
   have hz0 := EE.out.size
   have P4 := P4.sameE hS (fun h => h) (by intro c hc; simp at hc; (try subst hc); (try simp only); omega)
   have P8 : Blk w20 (g0 + 1) 42 z21 := hI.olds' 1 (List.mem_range.2 (show 1 < 3 by decide)) 0 rfl
   have EE := hide (show Ext _ _ from hTT)
   clear hS hz0 hTT hI
   generalize hF : putE _ _ _ _ _ _ _ = FF
   have hF2 : FF = { tmps := #[.agg B, .int .i64 v, .int .i64 ep, .int .u64 0, .pointer (some ⟨g0, 0, none⟩), undef, undef, undef, .pointer (some ⟨g0 + 1, 0, none⟩), .bool false, undef, undef, undef, undef, undef, undef, undef, undef, undef, undef, .agg B, .bool true, .bool false, .bool false, .int .i64 ep, .bool false, .bool false, .bool false, .int .i64 ep, .bool false, .bool false, .bool false, .int .u64 0, .bool true, .bool true, .agg z21, undef, undef, undef, undef, undef, undef, undef, undef, undef, undef, undef, undef, undef, undef, undef, undef, undef, undef, undef, undef, undef, undef, undef, undef, undef, undef, undef, undef, undef, undef, undef, undef, undef, undef, undef, undef, undef, undef], defers := [] } := by subst hF; kernel_rfl
   clear hF
   subst hF2
   go_wp2_with fail
   exact bodyPost_ret (res_row2 (p := 8) (u := 9) (ty := 42) rfl _ _ _ 42 z21 _ rfl P8 uCone rfl rfl) rfl ⟨by kernel_rfl, EE.out⟩
end
section
open Go Go.RowKit Go.Sort
attribute [local go_sem] qUpon eUpon putE slE
set_option maxHeartbeats 3200000 in
set_option maxRecDepth 100000 in
theorem pc_base1 (X : Array Value) (b c d : Nat) (W : World) (sX : X.size = 5) (oX : X.all (·.oneCell') = true) (f2 : X[2]? = some (.int .u64 (b : Int))) (f3 : X[3]? = some (.int .u64 (c : Int))) (f4 : X[4]? = some (.int .u64 (d : Int))) (kv : Hid (∀ w, Calls Try.prog 64 #[.agg X] w (Ret (.bool false) w))) :
   Calls Try.prog 37 #[.agg X] W (Ret (.bool false) W) := by
 have P1 := Blk.new W 25 X
 have EE := hide (ext_alloc W (.cells X 25))
 obtain ⟨W1, hW1⟩ : ∃ W1, (W.alloc (.cells X 25)) = W1 := ⟨_, rfl⟩
 obtain ⟨g0, hg⟩ : ∃ g, W.heap.size = g := ⟨_, rfl⟩
 rw [hW1] at P1 EE
 rw [hg] at P1
 have P1_lo : W.heap.size ≤ g0 := by omega
 have HW := hide hW1
 have Hg := hide hg
 clear hW1 hg
 go_enter Try.func37, Try.ntmps37
 go_upto_region 1 with fail
 rw [HW.out, Hg.out]
 clear HW Hg
 have P1_lt := P1.lt
 refine wp_evs [.q, .q, .q, .sk, .sk, .sk, .sk, .q, .q, .sk, .sk, .sk, .sk, .q, .q, .sk, .sk, .sk, .sk, .q, .q] [0, 0, 0, 0, 0, 0, 0, 0, 0, 0, 0, 0, 0, 0, 0, 0, 0, 0, 0, 0, 0] (fun R => [.agg X, .bool false, .bool false, undef, undef, undef, undef, .bool false, .bool false, undef, undef, undef, undef, .bool false, .bool false, undef, undef, undef, undef, .bool false, .bool false]) (fun _ => (.cells #[] 0 (0, 0))) (fun R _ => (.cells #[] 0 (0, 0))) (fun _ => 0) (XE W) (fun _ => False) (by kernel_rfl) (by kernel_rfl) (by kernel_rfl) rfl (fun _ => rfl) (fun _ h => h.elim) (fun _ _ h => h) (by simp) (by simp) (fun R R' => ⟨fun _ => rfl, fun _ => rfl, fun _ => rfl, fun _ => rfl, fun _ => rfl, fun _ => rfl, fun _ => rfl, fun _ => rfl, fun _ => rfl, fun _ => rfl, fun _ => rfl, fun _ => rfl, fun _ => rfl, fun _ => rfl, fun _ => rfl, fun _ => rfl, fun _ => rfl, fun _ => rfl, fun _ => rfl, fun _ => rfl, fun _ => rfl, trivial⟩) (fun _ _ _ _ => rfl) xe_below EE.out ?ops21 ?end21
 case ops21 =>
   refine ⟨?_, ?_, ?_, ?_, ?_, ?_, ?_, ?_, ?_, ?_, ?_, ?_, ?_, ?_, ?_, ?_, ?_, ?_, ?_, ?_, ?_, trivial⟩
   · refine er_q ?vn1 ?hn1 ?kn1 ?gn1 ?_
     case hn1 => exact rfl
     case vn1 => exact (fun R => .agg X)
     case kn1 => exact (fun R => rfl)
     case gn1 => exact gd_none rfl
     intro R s w' hT hs hw ha
     have L := ld_all (P1.sameE hw (fun h => h) (by simp)) uWide rfl iWide sX
     generalize hA : putE _ _ _ _ _ _ _ = AA
     refine q_load rfl ?_ L
     subst hA
     kernel_rfl
   · refine er_q ?vn2 ?hn2 ?kn2 ?gn2 ?_
     case hn2 => exact rfl
     case vn2 => exact (fun R => .bool false)
     case kn2 => exact (fun R => rfl)
     case gn2 => exact gd_none rfl
     intro R s w' hT hs hw ha
     go_simp
     exact kv.out w'
   · refine er_q ?vn3 ?hn3 ?kn3 ?gn3 ?_
     case hn3 => exact rfl
     case vn3 => exact (fun R => .bool false)
     case kn3 => exact (fun R => rfl)
     case gn3 => exact gd_none rfl
     intro R s w' hT hs hw ha
     go_simp
   · refine er_sk ?hn4 ?gn4
     case hn4 => exact rfl
     case gn4 => (refine gd_some rfl ?_; intro R; kernel_rfl)
   · refine er_sk ?hn5 ?gn5
     case hn5 => exact rfl
     case gn5 => (refine gd_some rfl ?_; intro R; kernel_rfl)
   · refine er_sk ?hn6 ?gn6
     case hn6 => exact rfl
     case gn6 => (refine gd_some rfl ?_; intro R; kernel_rfl)
   · refine er_sk ?hn7 ?gn7
     case hn7 => exact rfl
     case gn7 => (refine gd_some rfl ?_; intro R; kernel_rfl)
   · refine er_q ?vn8 ?hn8 ?kn8 ?gn8 ?_
     case hn8 => exact rfl
     case vn8 => exact (fun R => .bool false)
     case kn8 => exact (fun R => rfl)
     case gn8 => exact gd_none rfl
     intro R s w' hT hs hw ha
     go_simp
   · refine er_q ?vn9 ?hn9 ?kn9 ?gn9 ?_
     case hn9 => exact rfl
     case vn9 => exact (fun R => .bool false)
     case kn9 => exact (fun R => rfl)
     case gn9 => exact gd_none rfl
     intro R s w' hT hs hw ha
     go_simp
   · refine er_sk ?hn10 ?gn10
     case hn10 => exact rfl
     case gn10 => (refine gd_some rfl ?_; intro R; kernel_rfl)
   · refine er_sk ?hn11 ?gn11
     case hn11 => exact rfl
     case gn11 => (refine gd_some rfl ?_; intro R; kernel_rfl)
   · refine er_sk ?hn12 ?gn12
     case hn12 => exact rfl
     case gn12 => (refine gd_some rfl ?_; intro R; kernel_rfl)
   · refine er_sk ?hn13 ?gn13
     case hn13 => exact rfl
     case gn13 => (refine gd_some rfl ?_; intro R; kernel_rfl)
   · refine er_q ?vn14 ?hn14 ?kn14 ?gn14 ?_
     case hn14 => exact rfl
     case vn14 => exact (fun R => .bool false)
     case kn14 => exact (fun R => rfl)
     case gn14 => exact gd_none rfl
     intro R s w' hT hs hw ha
     go_simp
   · refine er_q ?vn15 ?hn15 ?kn15 ?gn15 ?_
     case hn15 => exact rfl
     case vn15 => exact (fun R => .bool false)
     case kn15 => exact (fun R => rfl)
     case gn15 => exact gd_none rfl
     intro R s w' hT hs hw ha
     go_simp
   · refine er_sk ?hn16 ?gn16
     case hn16 => exact rfl
     case gn16 => (refine gd_some rfl ?_; intro R; kernel_rfl)
   · refine er_sk ?hn17 ?gn17
     case hn17 => exact rfl
     case gn17 => (refine gd_some rfl ?_; intro R; kernel_rfl)
   · refine er_sk ?hn18 ?gn18
     case hn18 => exact rfl
     case gn18 => (refine gd_some rfl ?_; intro R; kernel_rfl)
   · refine er_sk ?hn19 ?gn19
     case hn19 => exact rfl
     case gn19 => (refine gd_some rfl ?_; intro R; kernel_rfl)
   · refine er_q ?vn20 ?hn20 ?kn20 ?gn20 ?_
     case hn20 => exact rfl
     case vn20 => exact (fun R => .bool false)
     case kn20 => exact (fun R => rfl)
     case gn20 => exact gd_none rfl
     intro R s w' hT hs hw ha
     go_simp
   · refine er_q ?vn21 ?hn21 ?kn21 ?gn21 ?_
     case hn21 => exact rfl
     case vn21 => exact (fun R => .bool false)
     case kn21 => exact (fun R => rfl)
     case gn21 => exact gd_none rfl
     intro R s w' hT hs hw ha
     go_simp
 case end21 =>
  intro sI R G w22 hI
  have hS := hI.same
  have hTT := hI.holds
  have hz0 := EE.out.size
  have P1 := P1.sameE hS (fun h => h) (by simp)
  have EE := hide (show Ext _ _ from hTT)
  clear hS hz0 hTT hI
  generalize hF : putE _ _ _ _ _ _ _ = FF
  have hF2 : FF = { tmps := #[.agg X, .pointer (some ⟨g0, 0, none⟩), .bool false, .agg X, .bool false, .bool false, undef, undef, undef, undef, .bool false, .bool false, undef, undef, undef, undef, .bool false, .bool false, undef, undef, undef, undef, .bool false], defers := [] } := by subst hF; kernel_rfl
  clear hF
  subst hF2
  go_wp2_with fail
  go_ret
  exact ⟨rfl, EE.out⟩
set_option maxHeartbeats 3200000 in
set_option maxRecDepth 100000 in
theorem pc_base2 (X : Array Value) (b c d : Nat) (W : World) (sX : X.size = 5) (oX : X.all (·.oneCell') = true) (f2 : X[2]? = some (.int .u64 (b : Int))) (f3 : X[3]? = some (.int .u64 (c : Int))) (f4 : X[4]? = some (.int .u64 (d : Int))) (kv : Hid (∀ w, Calls Try.prog 64 #[.agg X] w (Ret (.bool true) w))) (hd : d ≠ 0) :
   Calls Try.prog 37 #[.agg X] W (Ret (.bool false) W) := by
 have ed : (((d : Nat) : Int) == 0) = false := by rw [beq_eq_false_iff_ne]; omega
 have ed' : decide (d = 0) = false := decide_eq_false hd
 clear hd
 have P1 := Blk.new W 25 X
 have EE := hide (ext_alloc W (.cells X 25))
 obtain ⟨W1, hW1⟩ : ∃ W1, (W.alloc (.cells X 25)) = W1 := ⟨_, rfl⟩
 obtain ⟨g0, hg⟩ : ∃ g, W.heap.size = g := ⟨_, rfl⟩
 rw [hW1] at P1 EE
 rw [hg] at P1
 have P1_lo : W.heap.size ≤ g0 := by omega
 have HW := hide hW1
 have Hg := hide hg
 clear hW1 hg
 go_enter Try.func37, Try.ntmps37
 go_upto_region 1 with fail
 rw [HW.out, Hg.out]
 clear HW Hg
 have P1_lt := P1.lt
 refine wp_evs [.q, .q, .q, .q, .q, .q, .q, .q, .q, .sk, .sk, .sk, .sk, .q, .q, .sk, .sk, .sk, .sk, .q, .q] [0, 0, 0, 0, 0, 0, 0, 0, 0, 0, 0, 0, 0, 0, 0, 0, 0, 0, 0, 0, 0] (fun R => [.agg X, .bool true, .bool true, .pointer (some ⟨g0, 1, none⟩), .pointer (some ⟨g0, 4, none⟩), .int .u64 (d : Int), .bool false, .bool false, .bool false, undef, undef, undef, undef, .bool false, .bool false, undef, undef, undef, undef, .bool false, .bool false]) (fun _ => (.cells #[] 0 (0, 0))) (fun R _ => (.cells #[] 0 (0, 0))) (fun _ => 0) (XE W) (fun _ => False) (by kernel_rfl) (by kernel_rfl) (by kernel_rfl) rfl (fun _ => rfl) (fun _ h => h.elim) (fun _ _ h => h) (by simp) (by simp) (fun R R' => ⟨fun _ => rfl, fun _ => rfl, fun _ => rfl, fun _ => rfl, fun _ => rfl, fun _ => rfl, fun _ => rfl, fun _ => rfl, fun _ => rfl, fun _ => rfl, fun _ => rfl, fun _ => rfl, fun _ => rfl, fun _ => rfl, fun _ => rfl, fun _ => rfl, fun _ => rfl, fun _ => rfl, fun _ => rfl, fun _ => rfl, fun _ => rfl, trivial⟩) (fun _ _ _ _ => rfl) xe_below EE.out ?ops21 ?end21
 case ops21 =>
   refine ⟨?_, ?_, ?_, ?_, ?_, ?_, ?_, ?_, ?_, ?_, ?_, ?_, ?_, ?_, ?_, ?_, ?_, ?_, ?_, ?_, ?_, trivial⟩
   · refine er_q ?vn1 ?hn1 ?kn1 ?gn1 ?_
     case hn1 => exact rfl
     case vn1 => exact (fun R => .agg X)
     case kn1 => exact (fun R => rfl)
     case gn1 => exact gd_none rfl
     intro R s w' hT hs hw ha
     have L := ld_all (P1.sameE hw (fun h => h) (by simp)) uWide rfl iWide sX
     generalize hA : putE _ _ _ _ _ _ _ = AA
     refine q_load rfl ?_ L
     subst hA
     kernel_rfl
   · refine er_q ?vn2 ?hn2 ?kn2 ?gn2 ?_
     case hn2 => exact rfl
     case vn2 => exact (fun R => .bool true)
     case kn2 => exact (fun R => rfl)
     case gn2 => exact gd_none rfl
     intro R s w' hT hs hw ha
     go_simp
     exact kv.out w'
   · refine er_q ?vn3 ?hn3 ?kn3 ?gn3 ?_
     case hn3 => exact rfl
     case vn3 => exact (fun R => .bool true)
     case kn3 => exact (fun R => rfl)
     case gn3 => exact gd_none rfl
     intro R s w' hT hs hw ha
     go_simp
   · refine er_q ?vn4 ?hn4 ?kn4 ?gn4 ?_
     case hn4 => exact rfl
     case vn4 => exact (fun R => .pointer (some ⟨g0, 1, none⟩))
     case kn4 => exact (fun R => rfl)
     case gn4 => (refine gd_some rfl ?_; intro R; kernel_rfl)
     intro R s w' hT hs hw ha
     go_simp
   · refine er_q ?vn5 ?hn5 ?kn5 ?gn5 ?_
     case hn5 => exact rfl
     case vn5 => exact (fun R => .pointer (some ⟨g0, 4, none⟩))
     case kn5 => exact (fun R => rfl)
     case gn5 => (refine gd_some rfl ?_; intro R; kernel_rfl)
     intro R s w' hT hs hw ha
     go_simp
   · refine er_q ?vn6 ?hn6 ?kn6 ?gn6 ?_
     case hn6 => exact rfl
     case vn6 => exact (fun R => .int .u64 (d : Int))
     case kn6 => exact (fun R => rfl)
     case gn6 => (refine gd_some rfl ?_; intro R; kernel_rfl)
     intro R s w' hT hs hw ha
     have cc := ((P1.sameE hw (fun h => h) (by simp) : Blk w' g0 _ X).cell 4).trans (f4)
     go_simp
   · refine er_q ?vn7 ?hn7 ?kn7 ?gn7 ?_
     case hn7 => exact rfl
     case vn7 => exact (fun R => .bool false)
     case kn7 => exact (fun R => rfl)
     case gn7 => (refine gd_some rfl ?_; intro R; kernel_rfl)
     intro R s w' hT hs hw ha
     go_simp
   · refine er_q ?vn8 ?hn8 ?kn8 ?gn8 ?_
     case hn8 => exact rfl
     case vn8 => exact (fun R => .bool false)
     case kn8 => exact (fun R => rfl)
     case gn8 => exact gd_none rfl
     intro R s w' hT hs hw ha
     go_simp
   · refine er_q ?vn9 ?hn9 ?kn9 ?gn9 ?_
     case hn9 => exact rfl
     case vn9 => exact (fun R => .bool false)
     case kn9 => exact (fun R => rfl)
     case gn9 => exact gd_none rfl
     intro R s w' hT hs hw ha
     go_simp
   · refine er_sk ?hn10 ?gn10
     case hn10 => exact rfl
     case gn10 => (refine gd_some rfl ?_; intro R; kernel_rfl)
   · refine er_sk ?hn11 ?gn11
     case hn11 => exact rfl
     case gn11 => (refine gd_some rfl ?_; intro R; kernel_rfl)
   · refine er_sk ?hn12 ?gn12
     case hn12 => exact rfl
     case gn12 => (refine gd_some rfl ?_; intro R; kernel_rfl)
   · refine er_sk ?hn13 ?gn13
     case hn13 => exact rfl
     case gn13 => (refine gd_some rfl ?_; intro R; kernel_rfl)
   · refine er_q ?vn14 ?hn14 ?kn14 ?gn14 ?_
     case hn14 => exact rfl
     case vn14 => exact (fun R => .bool false)
     case kn14 => exact (fun R => rfl)
     case gn14 => exact gd_none rfl
     intro R s w' hT hs hw ha
     go_simp
   · refine er_q ?vn15 ?hn15 ?kn15 ?gn15 ?_
     case hn15 => exact rfl
     case vn15 => exact (fun R => .bool false)
     case kn15 => exact (fun R => rfl)
     case gn15 => exact gd_none rfl
     intro R s w' hT hs hw ha
     go_simp
   · refine er_sk ?hn16 ?gn16
     case hn16 => exact rfl
     case gn16 => (refine gd_some rfl ?_; intro R; kernel_rfl)
   · refine er_sk ?hn17 ?gn17
     case hn17 => exact rfl
     case gn17 => (refine gd_some rfl ?_; intro R; kernel_rfl)
   · refine er_sk ?hn18 ?gn18
     case hn18 => exact rfl
     case gn18 => (refine gd_some rfl ?_; intro R; kernel_rfl)
   · refine er_sk ?hn19 ?gn19
     case hn19 => exact rfl
     case gn19 => (refine gd_some rfl ?_; intro R; kernel_rfl)
   · refine er_q ?vn20 ?hn20 ?kn20 ?gn20 ?_
     case hn20 => exact rfl
     case vn20 => exact (fun R => .bool false)
     case kn20 => exact (fun R => rfl)
     case gn20 => exact gd_none rfl
     intro R s w' hT hs hw ha
     go_simp
   · refine er_q ?vn21 ?hn21 ?kn21 ?gn21 ?_
     case hn21 => exact rfl
     case vn21 => exact (fun R => .bool false)
     case kn21 => exact (fun R => rfl)
     case gn21 => exact gd_none rfl
     intro R s w' hT hs hw ha
     go_simp
 case end21 =>
  intro sI R G w22 hI
  have hS := hI.same
  have hTT := hI.holds
  have hz0 := EE.out.size
  have P1 := P1.sameE hS (fun h => h) (by simp)
  have EE := hide (show Ext _ _ from hTT)
  clear hS hz0 hTT hI
  generalize hF : putE _ _ _ _ _ _ _ = FF
  have hF2 : FF = { tmps := #[.agg X, .pointer (some ⟨g0, 0, none⟩), .bool false, .agg X, .bool true, .bool true, .pointer (some ⟨g0, 1, none⟩), .pointer (some ⟨g0, 4, none⟩), .int .u64 (d : Int), .bool false, .bool false, .bool false, undef, undef, undef, undef, .bool false, .bool false, undef, undef, undef, undef, .bool false], defers := [] } := by subst hF; kernel_rfl
  clear hF
  subst hF2
  go_wp2_with fail
  go_ret
  exact ⟨rfl, EE.out⟩
set_option maxHeartbeats 3200000 in
set_option maxRecDepth 100000 in
theorem pc_base3 (X : Array Value) (b c d : Nat) (W : World) (sX : X.size = 5) (oX : X.all (·.oneCell') = true) (f2 : X[2]? = some (.int .u64 (b : Int))) (f3 : X[3]? = some (.int .u64 (c : Int))) (f4 : X[4]? = some (.int .u64 (d : Int))) (kv : Hid (∀ w, Calls Try.prog 64 #[.agg X] w (Ret (.bool true) w))) (hd : d = 0) (hc : c ≠ 0) :
   Calls Try.prog 37 #[.agg X] W (Ret (.bool false) W) := by
 have ed : (((d : Nat) : Int) == 0) = true := by rw [beq_iff_eq]; omega
 have ed' : decide (d = 0) = true := decide_eq_true hd
 clear hd
 have ec : (((c : Nat) : Int) == 0) = false := by rw [beq_eq_false_iff_ne]; omega
 have ec' : decide (c = 0) = false := decide_eq_false hc
 clear hc
 have P1 := Blk.new W 25 X
 have EE := hide (ext_alloc W (.cells X 25))
 obtain ⟨W1, hW1⟩ : ∃ W1, (W.alloc (.cells X 25)) = W1 := ⟨_, rfl⟩
 obtain ⟨g0, hg⟩ : ∃ g, W.heap.size = g := ⟨_, rfl⟩
 rw [hW1] at P1 EE
 rw [hg] at P1
 have P1_lo : W.heap.size ≤ g0 := by omega
 have HW := hide hW1
 have Hg := hide hg
 clear hW1 hg
 go_enter Try.func37, Try.ntmps37
 go_upto_region 1 with fail
 rw [HW.out, Hg.out]
 clear HW Hg
 have P1_lt := P1.lt
 refine wp_evs [.q, .q, .q, .q, .q, .q, .q, .q, .q, .q, .q, .q, .q, .q, .q, .sk, .sk, .sk, .sk, .q, .q] [0, 0, 0, 0, 0, 0, 0, 0, 0, 0, 0, 0, 0, 0, 0, 0, 0, 0, 0, 0, 0] (fun R => [.agg X, .bool true, .bool true, .pointer (some ⟨g0, 1, none⟩), .pointer (some ⟨g0, 4, none⟩), .int .u64 (d : Int), .bool true, .bool true, .bool true, .pointer (some ⟨g0, 1, none⟩), .pointer (some ⟨g0, 3, none⟩), .int .u64 (c : Int), .bool false, .bool false, .bool false, undef, undef, undef, undef, .bool false, .bool false]) (fun _ => (.cells #[] 0 (0, 0))) (fun R _ => (.cells #[] 0 (0, 0))) (fun _ => 0) (XE W) (fun _ => False) (by kernel_rfl) (by kernel_rfl) (by kernel_rfl) rfl (fun _ => rfl) (fun _ h => h.elim) (fun _ _ h => h) (by simp) (by simp) (fun R R' => ⟨fun _ => rfl, fun _ => rfl, fun _ => rfl, fun _ => rfl, fun _ => rfl, fun _ => rfl, fun _ => rfl, fun _ => rfl, fun _ => rfl, fun _ => rfl, fun _ => rfl, fun _ => rfl, fun _ => rfl, fun _ => rfl, fun _ => rfl, fun _ => rfl, fun _ => rfl, fun _ => rfl, fun _ => rfl, fun _ => rfl, fun _ => rfl, trivial⟩) (fun _ _ _ _ => rfl) xe_below EE.out ?ops21 ?end21
 case ops21 =>
   refine ⟨?_, ?_, ?_, ?_, ?_, ?_, ?_, ?_, ?_, ?_, ?_, ?_, ?_, ?_, ?_, ?_, ?_, ?_, ?_, ?_, ?_, trivial⟩
   · refine er_q ?vn1 ?hn1 ?kn1 ?gn1 ?_
     case hn1 => exact rfl
     case vn1 => exact (fun R => .agg X)
     case kn1 => exact (fun R => rfl)
     case gn1 => exact gd_none rfl
     intro R s w' hT hs hw ha
     have L := ld_all (P1.sameE hw (fun h => h) (by simp)) uWide rfl iWide sX
     generalize hA : putE _ _ _ _ _ _ _ = AA
     refine q_load rfl ?_ L
     subst hA
     kernel_rfl
   · refine er_q ?vn2 ?hn2 ?kn2 ?gn2 ?_
     case hn2 => exact rfl
     case vn2 => exact (fun R => .bool true)
     case kn2 => exact (fun R => rfl)
     case gn2 => exact gd_none rfl
     intro R s w' hT hs hw ha
     go_simp
     exact kv.out w'
   · refine er_q ?vn3 ?hn3 ?kn3 ?gn3 ?_
     case hn3 => exact rfl
     case vn3 => exact (fun R => .bool true)
     case kn3 => exact (fun R => rfl)
     case gn3 => exact gd_none rfl
     intro R s w' hT hs hw ha
     go_simp
   · refine er_q ?vn4 ?hn4 ?kn4 ?gn4 ?_
     case hn4 => exact rfl
     case vn4 => exact (fun R => .pointer (some ⟨g0, 1, none⟩))
     case kn4 => exact (fun R => rfl)
     case gn4 => (refine gd_some rfl ?_; intro R; kernel_rfl)
     intro R s w' hT hs hw ha
     go_simp
   · refine er_q ?vn5 ?hn5 ?kn5 ?gn5 ?_
     case hn5 => exact rfl
     case vn5 => exact (fun R => .pointer (some ⟨g0, 4, none⟩))
     case kn5 => exact (fun R => rfl)
     case gn5 => (refine gd_some rfl ?_; intro R; kernel_rfl)
     intro R s w' hT hs hw ha
     go_simp
   · refine er_q ?vn6 ?hn6 ?kn6 ?gn6 ?_
     case hn6 => exact rfl
     case vn6 => exact (fun R => .int .u64 (d : Int))
     case kn6 => exact (fun R => rfl)
     case gn6 => (refine gd_some rfl ?_; intro R; kernel_rfl)
     intro R s w' hT hs hw ha
     have cc := ((P1.sameE hw (fun h => h) (by simp) : Blk w' g0 _ X).cell 4).trans (f4)
     go_simp
   · refine er_q ?vn7 ?hn7 ?kn7 ?gn7 ?_
     case hn7 => exact rfl
     case vn7 => exact (fun R => .bool true)
     case kn7 => exact (fun R => rfl)
     case gn7 => (refine gd_some rfl ?_; intro R; kernel_rfl)
     intro R s w' hT hs hw ha
     go_simp
   · refine er_q ?vn8 ?hn8 ?kn8 ?gn8 ?_
     case hn8 => exact rfl
     case vn8 => exact (fun R => .bool true)
     case kn8 => exact (fun R => rfl)
     case gn8 => exact gd_none rfl
     intro R s w' hT hs hw ha
     go_simp
   · refine er_q ?vn9 ?hn9 ?kn9 ?gn9 ?_
     case hn9 => exact rfl
     case vn9 => exact (fun R => .bool true)
     case kn9 => exact (fun R => rfl)
     case gn9 => exact gd_none rfl
     intro R s w' hT hs hw ha
     go_simp
   · refine er_q ?vn10 ?hn10 ?kn10 ?gn10 ?_
     case hn10 => exact rfl
     case vn10 => exact (fun R => .pointer (some ⟨g0, 1, none⟩))
     case kn10 => exact (fun R => rfl)
     case gn10 => (refine gd_some rfl ?_; intro R; kernel_rfl)
     intro R s w' hT hs hw ha
     go_simp
   · refine er_q ?vn11 ?hn11 ?kn11 ?gn11 ?_
     case hn11 => exact rfl
     case vn11 => exact (fun R => .pointer (some ⟨g0, 3, none⟩))
     case kn11 => exact (fun R => rfl)
     case gn11 => (refine gd_some rfl ?_; intro R; kernel_rfl)
     intro R s w' hT hs hw ha
     go_simp
   · refine er_q ?vn12 ?hn12 ?kn12 ?gn12 ?_
     case hn12 => exact rfl
     case vn12 => exact (fun R => .int .u64 (c : Int))
     case kn12 => exact (fun R => rfl)
     case gn12 => (refine gd_some rfl ?_; intro R; kernel_rfl)
     intro R s w' hT hs hw ha
     have cc := ((P1.sameE hw (fun h => h) (by simp) : Blk w' g0 _ X).cell 3).trans (f3)
     go_simp
   · refine er_q ?vn13 ?hn13 ?kn13 ?gn13 ?_
     case hn13 => exact rfl
     case vn13 => exact (fun R => .bool false)
     case kn13 => exact (fun R => rfl)
     case gn13 => (refine gd_some rfl ?_; intro R; kernel_rfl)
     intro R s w' hT hs hw ha
     go_simp
   · refine er_q ?vn14 ?hn14 ?kn14 ?gn14 ?_
     case hn14 => exact rfl
     case vn14 => exact (fun R => .bool false)
     case kn14 => exact (fun R => rfl)
     case gn14 => exact gd_none rfl
     intro R s w' hT hs hw ha
     go_simp
   · refine er_q ?vn15 ?hn15 ?kn15 ?gn15 ?_
     case hn15 => exact rfl
     case vn15 => exact (fun R => .bool false)
     case kn15 => exact (fun R => rfl)
     case gn15 => exact gd_none rfl
     intro R s w' hT hs hw ha
     go_simp
   · refine er_sk ?hn16 ?gn16
     case hn16 => exact rfl
     case gn16 => (refine gd_some rfl ?_; intro R; kernel_rfl)
   · refine er_sk ?hn17 ?gn17
     case hn17 => exact rfl
     case gn17 => (refine gd_some rfl ?_; intro R; kernel_rfl)
   · refine er_sk ?hn18 ?gn18
     case hn18 => exact rfl
     case gn18 => (refine gd_some rfl ?_; intro R; kernel_rfl)
   · refine er_sk ?hn19 ?gn19
     case hn19 => exact rfl
     case gn19 => (refine gd_some rfl ?_; intro R; kernel_rfl)
   · refine er_q ?vn20 ?hn20 ?kn20 ?gn20 ?_
     case hn20 => exact rfl
     case vn20 => exact (fun R => .bool false)
     case kn20 => exact (fun R => rfl)
     case gn20 => exact gd_none rfl
     intro R s w' hT hs hw ha
     go_simp
   · refine er_q ?vn21 ?hn21 ?kn21 ?gn21 ?_
     case hn21 => exact rfl
     case vn21 => exact (fun R => .bool false)
     case kn21 => exact (fun R => rfl)
     case gn21 => exact gd_none rfl
     intro R s w' hT hs hw ha
     go_simp
 case end21 =>
  intro sI R G w22 hI
  have hS := hI.same
  have hTT := hI.holds
  have hz0 := EE.out.size
  have P1 := P1.sameE hS (fun h => h) (by simp)
  have EE := hide (show Ext _ _ from hTT)
  clear hS hz0 hTT hI
  generalize hF : putE _ _ _ _ _ _ _ = FF
  have hF2 : FF = { tmps := #[.agg X, .pointer (some ⟨g0, 0, none⟩), .bool false, .agg X, .bool true, .bool true, .pointer (some ⟨g0, 1, none⟩), .pointer (some ⟨g0, 4, none⟩), .int .u64 (d : Int), .bool true, .bool true, .bool true, .pointer (some ⟨g0, 1, none⟩), .pointer (some ⟨g0, 3, none⟩), .int .u64 (c : Int), .bool false, .bool false, .bool false, undef, undef, undef, undef, .bool false], defers := [] } := by subst hF; kernel_rfl
  clear hF
  subst hF2
  go_wp2_with fail
  go_ret
  exact ⟨rfl, EE.out⟩
set_option maxHeartbeats 3200000 in
set_option maxRecDepth 100000 in
theorem pc_base4 (X : Array Value) (b c d : Nat) (W : World) (sX : X.size = 5) (oX : X.all (·.oneCell') = true) (f2 : X[2]? = some (.int .u64 (b : Int))) (f3 : X[3]? = some (.int .u64 (c : Int))) (f4 : X[4]? = some (.int .u64 (d : Int))) (kv : Hid (∀ w, Calls Try.prog 64 #[.agg X] w (Ret (.bool true) w))) (hd : d = 0) (hc : c = 0) :
   Calls Try.prog 37 #[.agg X] W (Ret (.bool (decide ((b : Int) < 4))) W) := by
 have ed : (((d : Nat) : Int) == 0) = true := by rw [beq_iff_eq]; omega
 have ed' : decide (d = 0) = true := decide_eq_true hd
 clear hd
 have ec : (((c : Nat) : Int) == 0) = true := by rw [beq_iff_eq]; omega
 have ec' : decide (c = 0) = true := decide_eq_true hc
 clear hc
 have P1 := Blk.new W 25 X
 have EE := hide (ext_alloc W (.cells X 25))
 obtain ⟨W1, hW1⟩ : ∃ W1, (W.alloc (.cells X 25)) = W1 := ⟨_, rfl⟩
 obtain ⟨g0, hg⟩ : ∃ g, W.heap.size = g := ⟨_, rfl⟩
 rw [hW1] at P1 EE
 rw [hg] at P1
 have P1_lo : W.heap.size ≤ g0 := by omega
 have HW := hide hW1
 have Hg := hide hg
 clear hW1 hg
 go_enter Try.func37, Try.ntmps37
 go_upto_region 1 with fail
 rw [HW.out, Hg.out]
 clear HW Hg
 have P1_lt := P1.lt
 refine wp_evs [.q, .q, .q, .q, .q, .q, .q, .q, .q, .q, .q, .q, .q, .q, .q, .q, .q, .q, .q, .q, .q] [0, 0, 0, 0, 0, 0, 0, 0, 0, 0, 0, 0, 0, 0, 0, 0, 0, 0, 0, 0, 0] (fun R => [.agg X, .bool true, .bool true, .pointer (some ⟨g0, 1, none⟩), .pointer (some ⟨g0, 4, none⟩), .int .u64 (d : Int), .bool true, .bool true, .bool true, .pointer (some ⟨g0, 1, none⟩), .pointer (some ⟨g0, 3, none⟩), .int .u64 (c : Int), .bool true, .bool true, .bool true, .pointer (some ⟨g0, 1, none⟩), .pointer (some ⟨g0, 2, none⟩), .int .u64 (b : Int), .bool (decide ((b : Int) < 4)), .bool (decide ((b : Int) < 4)), .bool (decide ((b : Int) < 4))]) (fun _ => (.cells #[] 0 (0, 0))) (fun R _ => (.cells #[] 0 (0, 0))) (fun _ => 0) (XE W) (fun _ => False) (by kernel_rfl) (by kernel_rfl) (by kernel_rfl) rfl (fun _ => rfl) (fun _ h => h.elim) (fun _ _ h => h) (by simp) (by simp) (fun R R' => ⟨fun _ => rfl, fun _ => rfl, fun _ => rfl, fun _ => rfl, fun _ => rfl, fun _ => rfl, fun _ => rfl, fun _ => rfl, fun _ => rfl, fun _ => rfl, fun _ => rfl, fun _ => rfl, fun _ => rfl, fun _ => rfl, fun _ => rfl, fun _ => rfl, fun _ => rfl, fun _ => rfl, fun _ => rfl, fun _ => rfl, fun _ => rfl, trivial⟩) (fun _ _ _ _ => rfl) xe_below EE.out ?ops21 ?end21
 case ops21 =>
   refine ⟨?_, ?_, ?_, ?_, ?_, ?_, ?_, ?_, ?_, ?_, ?_, ?_, ?_, ?_, ?_, ?_, ?_, ?_, ?_, ?_, ?_, trivial⟩
   · refine er_q ?vn1 ?hn1 ?kn1 ?gn1 ?_
     case hn1 => exact rfl
     case vn1 => exact (fun R => .agg X)
     case kn1 => exact (fun R => rfl)
     case gn1 => exact gd_none rfl
     intro R s w' hT hs hw ha
     have L := ld_all (P1.sameE hw (fun h => h) (by simp)) uWide rfl iWide sX
     generalize hA : putE _ _ _ _ _ _ _ = AA
     refine q_load rfl ?_ L
     subst hA
     kernel_rfl
   · refine er_q ?vn2 ?hn2 ?kn2 ?gn2 ?_
     case hn2 => exact rfl
     case vn2 => exact (fun R => .bool true)
     case kn2 => exact (fun R => rfl)
     case gn2 => exact gd_none rfl
     intro R s w' hT hs hw ha
     go_simp
     exact kv.out w'
   · refine er_q ?vn3 ?hn3 ?kn3 ?gn3 ?_
     case hn3 => exact rfl
     case vn3 => exact (fun R => .bool true)
     case kn3 => exact (fun R => rfl)
     case gn3 => exact gd_none rfl
     intro R s w' hT hs hw ha
     go_simp
   · refine er_q ?vn4 ?hn4 ?kn4 ?gn4 ?_
     case hn4 => exact rfl
     case vn4 => exact (fun R => .pointer (some ⟨g0, 1, none⟩))
     case kn4 => exact (fun R => rfl)
     case gn4 => (refine gd_some rfl ?_; intro R; kernel_rfl)
     intro R s w' hT hs hw ha
     go_simp
   · refine er_q ?vn5 ?hn5 ?kn5 ?gn5 ?_
     case hn5 => exact rfl
     case vn5 => exact (fun R => .pointer (some ⟨g0, 4, none⟩))
     case kn5 => exact (fun R => rfl)
     case gn5 => (refine gd_some rfl ?_; intro R; kernel_rfl)
     intro R s w' hT hs hw ha
     go_simp
   · refine er_q ?vn6 ?hn6 ?kn6 ?gn6 ?_
     case hn6 => exact rfl
     case vn6 => exact (fun R => .int .u64 (d : Int))
     case kn6 => exact (fun R => rfl)
     case gn6 => (refine gd_some rfl ?_; intro R; kernel_rfl)
     intro R s w' hT hs hw ha
     have cc := ((P1.sameE hw (fun h => h) (by simp) : Blk w' g0 _ X).cell 4).trans (f4)
     go_simp
   · refine er_q ?vn7 ?hn7 ?kn7 ?gn7 ?_
     case hn7 => exact rfl
     case vn7 => exact (fun R => .bool true)
     case kn7 => exact (fun R => rfl)
     case gn7 => (refine gd_some rfl ?_; intro R; kernel_rfl)
     intro R s w' hT hs hw ha
     go_simp
   · refine er_q ?vn8 ?hn8 ?kn8 ?gn8 ?_
     case hn8 => exact rfl
     case vn8 => exact (fun R => .bool true)
     case kn8 => exact (fun R => rfl)
     case gn8 => exact gd_none rfl
     intro R s w' hT hs hw ha
     go_simp
   · refine er_q ?vn9 ?hn9 ?kn9 ?gn9 ?_
     case hn9 => exact rfl
     case vn9 => exact (fun R => .bool true)
     case kn9 => exact (fun R => rfl)
     case gn9 => exact gd_none rfl
     intro R s w' hT hs hw ha
     go_simp
   · refine er_q ?vn10 ?hn10 ?kn10 ?gn10 ?_
     case hn10 => exact rfl
     case vn10 => exact (fun R => .pointer (some ⟨g0, 1, none⟩))
     case kn10 => exact (fun R => rfl)
     case gn10 => (refine gd_some rfl ?_; intro R; kernel_rfl)
     intro R s w' hT hs hw ha
     go_simp
   · refine er_q ?vn11 ?hn11 ?kn11 ?gn11 ?_
     case hn11 => exact rfl
     case vn11 => exact (fun R => .pointer (some ⟨g0, 3, none⟩))
     case kn11 => exact (fun R => rfl)
     case gn11 => (refine gd_some rfl ?_; intro R; kernel_rfl)
     intro R s w' hT hs hw ha
     go_simp
   · refine er_q ?vn12 ?hn12 ?kn12 ?gn12 ?_
     case hn12 => exact rfl
     case vn12 => exact (fun R => .int .u64 (c : Int))
     case kn12 => exact (fun R => rfl)
     case gn12 => (refine gd_some rfl ?_; intro R; kernel_rfl)
     intro R s w' hT hs hw ha
     have cc := ((P1.sameE hw (fun h => h) (by simp) : Blk w' g0 _ X).cell 3).trans (f3)
     go_simp
   · refine er_q ?vn13 ?hn13 ?kn13 ?gn13 ?_
     case hn13 => exact rfl
     case vn13 => exact (fun R => .bool true)
     case kn13 => exact (fun R => rfl)
     case gn13 => (refine gd_some rfl ?_; intro R; kernel_rfl)
     intro R s w' hT hs hw ha
     go_simp
   · refine er_q ?vn14 ?hn14 ?kn14 ?gn14 ?_
     case hn14 => exact rfl
     case vn14 => exact (fun R => .bool true)
     case kn14 => exact (fun R => rfl)
     case gn14 => exact gd_none rfl
     intro R s w' hT hs hw ha
     go_simp
   · refine er_q ?vn15 ?hn15 ?kn15 ?gn15 ?_
     case hn15 => exact rfl
     case vn15 => exact (fun R => .bool true)
     case kn15 => exact (fun R => rfl)
     case gn15 => exact gd_none rfl
     intro R s w' hT hs hw ha
     go_simp
   · refine er_q ?vn16 ?hn16 ?kn16 ?gn16 ?_
     case hn16 => exact rfl
     case vn16 => exact (fun R => .pointer (some ⟨g0, 1, none⟩))
     case kn16 => exact (fun R => rfl)
     case gn16 => (refine gd_some rfl ?_; intro R; kernel_rfl)
     intro R s w' hT hs hw ha
     go_simp
   · refine er_q ?vn17 ?hn17 ?kn17 ?gn17 ?_
     case hn17 => exact rfl
     case vn17 => exact (fun R => .pointer (some ⟨g0, 2, none⟩))
     case kn17 => exact (fun R => rfl)
     case gn17 => (refine gd_some rfl ?_; intro R; kernel_rfl)
     intro R s w' hT hs hw ha
     go_simp
   · refine er_q ?vn18 ?hn18 ?kn18 ?gn18 ?_
     case hn18 => exact rfl
     case vn18 => exact (fun R => .int .u64 (b : Int))
     case kn18 => exact (fun R => rfl)
     case gn18 => (refine gd_some rfl ?_; intro R; kernel_rfl)
     intro R s w' hT hs hw ha
     have cc := ((P1.sameE hw (fun h => h) (by simp) : Blk w' g0 _ X).cell 2).trans (f2)
     go_simp
   · refine er_q ?vn19 ?hn19 ?kn19 ?gn19 ?_
     case hn19 => exact rfl
     case vn19 => exact (fun R => .bool (decide ((b : Int) < 4)))
     case kn19 => exact (fun R => rfl)
     case gn19 => (refine gd_some rfl ?_; intro R; kernel_rfl)
     intro R s w' hT hs hw ha
     go_simp
   · refine er_q ?vn20 ?hn20 ?kn20 ?gn20 ?_
     case hn20 => exact rfl
     case vn20 => exact (fun R => .bool (decide ((b : Int) < 4)))
     case kn20 => exact (fun R => rfl)
     case gn20 => exact gd_none rfl
     intro R s w' hT hs hw ha
     go_simp
   · refine er_q ?vn21 ?hn21 ?kn21 ?gn21 ?_
     case hn21 => exact rfl
     case vn21 => exact (fun R => .bool (decide ((b : Int) < 4)))
     case kn21 => exact (fun R => rfl)
     case gn21 => exact gd_none rfl
     intro R s w' hT hs hw ha
     go_simp
 case end21 =>
  intro sI R G w22 hI
  have hS := hI.same
  have hTT := hI.holds
  have hz0 := EE.out.size
  have P1 := P1.sameE hS (fun h => h) (by simp)
  have EE := hide (show Ext _ _ from hTT)
  clear hS hz0 hTT hI
  generalize hF : putE _ _ _ _ _ _ _ = FF
  have hF2 : FF = { tmps := #[.agg X, .pointer (some ⟨g0, 0, none⟩), .bool (decide ((b : Int) < 4)), .agg X, .bool true, .bool true, .pointer (some ⟨g0, 1, none⟩), .pointer (some ⟨g0, 4, none⟩), .int .u64 (d : Int), .bool true, .bool true, .bool true, .pointer (some ⟨g0, 1, none⟩), .pointer (some ⟨g0, 3, none⟩), .int .u64 (c : Int), .bool true, .bool true, .bool true, .pointer (some ⟨g0, 1, none⟩), .pointer (some ⟨g0, 2, none⟩), .int .u64 (b : Int), .bool (decide ((b : Int) < 4)), .bool (decide ((b : Int) < 4))], defers := [] } := by subst hF; kernel_rfl
  clear hF
  subst hF2
  go_wp2_with fail
  go_ret
  exact ⟨rfl, EE.out⟩
theorem isBase_big {s : Bool} {a b c d : Nat} {x : Int} (h : IsW s a b c d x) : (d = 0 ∧ c = 0 ∧ b < 4) ↔ x.natAbs < 73786976294838206464 := by
 have e := h.abs
 have h0 := h.1
 have h1 := h.2.1
 have h2 := h.2.2.1
 have h3 := h.2.2.2.1
 simp only [mag4, val] at e
 constructor
 · rintro ⟨rfl, rfl, hb⟩; omega
 · intro hx
   refine ⟨?_, ?_, ?_⟩ <;> omega
theorem p_base {s : Bool} {a b c d : Nat} {x : Int} (h : IsW s a b c d x) (v : Bool) (kv : ∀ w, Calls Try.prog 64 #[.agg #[.bool s, .int .u64 (a : Int), .int .u64 (b : Int), .int .u64 (c : Int), .int .u64 (d : Int)]] w (Ret (.bool v) w)) (w : World) :
   Calls Try.prog 37 #[.agg #[.bool s, .int .u64 (a : Int), .int .u64 (b : Int), .int .u64 (c : Int), .int .u64 (d : Int)]] w (Ret (.bool (v && decide (x.natAbs < 73786976294838206464))) w) := by
 have hb := isBase_big h
 cases v with
 | false => exact pc_base1 _ b c d w rfl (by kernel_rfl) rfl rfl rfl (hide kv)
 | true =>
   by_cases hd : d = 0
   · by_cases hc : c = 0
     · have := pc_base4 _ b c d w rfl (by kernel_rfl) rfl rfl rfl (hide kv) hd hc
       have e : decide ((b : Int) < 4) = (true && decide (x.natAbs < 73786976294838206464)) := by
         rw [Bool.true_and]
         by_cases q : b < 4
         · rw [decide_eq_true (hb.1 ⟨hd, hc, q⟩), decide_eq_true (by omega)]
         · rw [decide_eq_false (fun z => q (hb.2 z).2.2), decide_eq_false (by omega)]
       rw [e] at this
       exact this
     · rw [decide_eq_false (fun z => hc (hb.2 z).2.1)]
       exact pc_base3 _ b c d w rfl (by kernel_rfl) rfl rfl rfl (hide kv) hd hc
   · rw [decide_eq_false (fun z => hd (hb.2 z).1)]
     exact pc_base2 _ b c d w rfl (by kernel_rfl) rfl rfl rfl (hide kv) hd
end
section
open Go Go.RowKit
theorem WideRet.ext {z : Int} {w W : World} {e : Ending} {w' : World} (h : WideRet z W e w') (k : Ext w W) : WideRet z w e w' := by
 obtain ⟨s, a, b, c, d, o, h1, h2, h3, h4⟩ := h
 exact ⟨s, a, b, c, d, o, h1, h2, h3, k.trans h4⟩
set_option maxHeartbeats 4000000 in
theorem p_wsub (s t : Bool) (a b c d e f g h : Nat) (x y : Int) (w : World) (hx : IsW s a b c d x) (hy : IsW t e f g h y) :
   Calls Try.prog 38 #[.agg #[.bool s, .int .u64 (a : Int), .int .u64 (b : Int), .int .u64 (c : Int), .int .u64 (d : Int)], .agg #[.bool t, .int .u64 (e : Int), .int .u64 (f : Int), .int .u64 (g : Int), .int .u64 (h : Int)]] w (WideRet (x - y) w) := by
 obtain ⟨W, hW⟩ : ∃ W, W = (((w.alloc (.cells #[.bool s, .int .u64 (a : Int), .int .u64 (b : Int), .int .u64 (c : Int), .int .u64 (d : Int)] 25)).alloc (.cells #[.bool t, .int .u64 (e : Int), .int .u64 (f : Int), .int .u64 (g : Int), .int .u64 (h : Int)] 25)).alloc (.cells #[.bool false, .int .u64 0, .int .u64 0, .int .u64 0, .int .u64 0] 25)) := ⟨_, rfl⟩
 have H3 := three_boxes w (.cells #[.bool s, .int .u64 (a : Int), .int .u64 (b : Int), .int .u64 (c : Int), .int .u64 (d : Int)] 25) (.cells #[.bool t, .int .u64 (e : Int), .int .u64 (f : Int), .int .u64 (g : Int), .int .u64 (h : Int)] 25) (.cells #[.bool false, .int .u64 0, .int .u64 0, .int .u64 0, .int .u64 0] 25)
 rw [← hW] at H3
 have B0 : Box W w.heap.size s a b c d := H3.1
 have B1 : Box W (w.heap.size + 1) t e f g h := H3.2.1
 have B2 : Box W (w.heap.size + 1 + 1) false 0 0 0 0 := H3.2.2
 have E0 : Ext w W := by rw [hW]; exact ((ext_alloc _ _).trans (ext_alloc _ _)).trans (ext_alloc _ _)
 have HW := hide hW
 clear hW H3
 have HZ : Hid (x + -y = x - y) := by unfold Hid; omega
 obtain ⟨c0, c1, c2, c3, c4, f0, f1, f2, f3, f4⟩ := five_cells B0
 obtain ⟨d0, d1, d2, d3, d4, g0, g1, g2, g3, g4⟩ := five_cells B1
 go_enter Try.func38, Try.ntmps38
 go_upto_region 1 with fail
 rw [← HW.out]
 clear HW
 go_region_with (first
   | (go_at_call 65; refine (p_neg t e f g h y _ hy).mono ?_; rintro e' w' ⟨t', e1, f1', g1', h1', rfl, hC, hE⟩; have R0 := B0.drew.ext hE; have R2 := B2.drew.ext hE; obtain ⟨c0, c1, c2, c3, c4, f0, f1, f2, f3, f4⟩ := five_cells R0; have E1 := (E0.trans (ext_drew _)).trans hE; clear hE)
   | (go_at_call 40; refine (p_wadd s t' a b c d e1 f1' g1' h1' x (-y) _ hx hC.1).mono ?_; rintro e' w' ⟨s', a', b', c', d', o, rfl, ho, hK, hE⟩; rw [HZ.out] at ho hK; have Ho := hide ho; clear ho; have E2 := E1.trans hE; have R3 := R2.ext hE; obtain ⟨i0, i1, i2, i3, i4, j0, j1, j2, j3, j4⟩ := five_cells R3; clear hE))
 all_goals go_wp2_with fail
 all_goals exact bodyPost_ret (v := .tuple #[.agg #[.bool s', .int .u64 (a' : Int), .int .u64 (b' : Int), .int .u64 (c' : Int), .int .u64 (d' : Int)], .bool o]) (by simp [results, Try.results38, go_sem, i0, i1, i2, i3, i4]) rfl ⟨s', a', b', c', d', o, rfl, Ho.out, hK, ext_five E2 (by omega) _ _ _ _ _⟩
end
section
open Go Go.RowKit Go.Sort
theorem base10 (w : World) : Calls Try.prog 37 #[.agg (wC 10)] w (Ret (.bool true) w) :=
 pc_base4 (wC 10) (l1 10) (l2 10) (l3 10) w rfl (wC_one _) rfl rfl rfl (hide (fun w => c_valid (by unfold F256; omega) w)) (by decide) (by decide)
theorem c_sub' {x y z : Int} (hx : F256 x) (hy : F256 y) (e : x - y = z) (hz : F256 z) (w : World) : Calls Try.prog 38 #[.agg #[.bool (sg x), .int .u64 (l0 x : Int), .int .u64 (l1 x : Int), .int .u64 (l2 x : Int), .int .u64 (l3 x : Int)], .agg #[.bool (sg y), .int .u64 (l0 y : Int), .int .u64 (l1 y : Int), .int .u64 (l2 y : Int), .int .u64 (l3 y : Int)]] w (Ret (.tuple #[.agg #[.bool (sg z), .int .u64 (l0 z : Int), .int .u64 (l1 z : Int), .int .u64 (l2 z : Int), .int .u64 (l3 z : Int)], .bool true]) w) :=
 (p_wsub _ _ _ _ _ _ _ _ _ _ x y w (isC_of hx).1 (isC_of hy).1).mono fun _ _ h => ret_pair (by rw [e] at h; exact h) hz
theorem l_known13q (W : World) : Calls Try.prog 12 #[] W (Ret (.bool true) W) := by
 have hc : okC (.cl (2, 1) (3, 1)) := by unfold okC okF leF; decide +kernel
 have hr : thruC 10 20 2 (4 : Nat) = .cl (2, 1) (3, 1) := by
   have a : redF (20 - 10 - 2) ((4 : Nat) : Int) = (2, 1) := by decide +kernel
   have b : redF (20 - 10 + 2) ((4 : Nat) : Int) = (3, 1) := by decide +kernel
   unfold thruC
   rw [a, b]
 have hg : ThrGood 10 2 4 := by decide
 have h3 : okF (3, 1) := by unfold okF; decide +kernel
 have h4 : okF (4, 1) := by unfold okF; decide +kernel
 have P := p_all
 have hS := fun w => pc_start w
 have hok : okF (redF (20 - 10 - 2) ((4 : Nat) : Int)) ∧ okF (redF (20 - 10 + 2) ((4 : Nat) : Int)) := by
   have h := hc
   rw [← hr] at h
   exact ⟨h.1, h.2.1⟩
 have kt := fun w => pc_through (wC 10) (wC 20) (wC (20 - 10)) (wC 2) (wC (20 - 10 - 2)) (wC (20 - 10 + 2)) (wC ((4 : Nat) : Int)) (frC (redF (20 - 10 - 2) ((4 : Nat) : Int))) (frC (redF (20 - 10 + 2) ((4 : Nat) : Int))) 20 2 4 true true true true true w rfl (wC_one _) rfl (wC_one _) rfl (wC_one _) rfl (wC_one _) (frC_rc _) (frC_rc _) (by omega) (by omega) (by omega) (by omega)
   (hide (fun w => base10 w)) (hide (fun w => c_ofi (by omega) (by omega) w)) (hide (fun w => c_sub' (by unfold F256; omega) (by unfold F256; omega) rfl (by unfold F256; omega) w)) (hide (fun w => c_ofi (by omega) (by omega) w)) (hide (fun w => c_sub' (by unfold F256; omega) (by unfold F256; omega) rfl (by unfold F256; omega) w)) (hide (fun w => c_add (by unfold F256; omega) (by unfold F256; omega) rfl (by unfold F256; omega) w)) (hide (fun w => c_ofu (by omega) w)) (hide (fun w => g_make (by unfold F256; omega) (by unfold F256; omega) (by omega) (redF_mkB hok.1) rfl rfl w)) (hide (fun w => g_make (by unfold F256; omega) (by unfold F256; omega) (by omega) (redF_mkB hok.2) rfl rfl w))
 change ∀ w, Calls _ _ _ w (Ret (.tuple #[.agg (cnC (thruC 10 20 2 (4 : Nat))), .bool true]) w) at kt
 rw [hr] at kt
 obtain ⟨s, hs, ks⟩ := P.h _ hc
 obtain rfl := choose_uniq hc hs best_known
 have ka := P.c _ (3, 1) hc h3
 have kb := P.c _ (4, 1) hc h4
 rw [show decide (inC (.cl (2, 1) (3, 1)) (3, 1)) = true from by decide] at ka
 rw [show decide (inC (.cl (2, 1) (3, 1)) (4, 1)) = false from by decide] at kb
 exact l_known13r (wC 10) (cnC (.cl (2, 1) (3, 1))) (frC (2, 1)) (frC (3, 1)) (frC (4, 1)) W (cnC_size _) (cnC_one _) (fun w => cnC_eq _ w) (fun w => eq_rat (frC_rc _) w) (hide (fun w => d_ofi (by omega) (by omega) w)) (hide kt) (hide hS) (hide (P.m _ .op hc trivial)) (hide ks) (hide (fun w => h_of (by omega) (by omega) w)) (hide (P.v _ hc)) (hide (fun w => h_of (by omega) (by omega) w)) (hide (fun w => h_of (by omega) (by omega) w)) (hide ka) (hide kb)
end
section
open Go Go.RowKit Go.Sort
theorem l_known13p (W : World) : Calls Try.prog 12 #[] W (Ret (.bool true) W) := l_known13q W
end
section
open Go Go.RowKit Go.Sort
theorem c_sub {x y z : Int} (hx : F256 x) (hy : F256 y) (e : x - y = z) (hz : F256 z) (w : World) : Calls Try.prog 38 #[.agg #[.bool (sg x), .int .u64 (l0 x : Int), .int .u64 (l1 x : Int), .int .u64 (l2 x : Int), .int .u64 (l3 x : Int)], .agg #[.bool (sg y), .int .u64 (l0 y : Int), .int .u64 (l1 y : Int), .int .u64 (l2 y : Int), .int .u64 (l3 y : Int)]] w (Ret (.tuple #[.agg #[.bool (sg z), .int .u64 (l0 z : Int), .int .u64 (l1 z : Int), .int .u64 (l2 z : Int), .int .u64 (l3 z : Int)], .bool true]) w) :=
 (p_wsub _ _ _ _ _ _ _ _ _ _ x y w (isC_of hx).1 (isC_of hy).1).mono fun _ _ h => ret_pair (by rw [e] at h; exact h) hz
theorem makeP {n d : Int} (hn : F256 n) (hd : F256 d) (h0 : d ≠ 0) (h : okF (redF n d)) (w : World) : Calls Try.prog 41 #[.agg (wC n), .agg (wC d)] w (Ret (.tuple #[.agg (frC (redF n d)), .bool true]) w) := g_make hn hd h0 (redF_mkB h) rfl rfl w
theorem p_thr : PThr 17 := fun base v eps dt hb v1 v2 e1 e2 hd w => by
 have kb : ∀ w, Calls Try.prog 37 #[.agg (wC base)] w (Ret (.bool (decide (base.natAbs < 73786976294838206464))) w) := fun w => p_base (isC_of hb).1 true (fun w => c_valid hb w) w
 by_cases g1 : base.natAbs < 73786976294838206464
 · rw [decide_eq_true g1] at kb
   by_cases ge : 0 ≤ eps
   · by_cases ge2 : eps ≤ 4611686018427387904
     · by_cases g3 : 0 < dt
       · have hg : ThrGood base eps dt := ⟨g1, ge, ge2, g3⟩
         have hok := thru_ok (base := base) (v := v) (eps := eps) (dt := (dt : Int)) g1 v1 v2 ge ge2 (by omega) (by omega)
         have hv : F256 v := by unfold F256; omega
         have he : F256 eps := by unfold F256; omega
         have hq : F256 (v - base) := by unfold F256; omega
         have hlo : F256 (v - base - eps) := by unfold F256; omega
         have hhi : F256 (v - base + eps) := by unfold F256; omega
         have hdd : F256 (dt : Int) := by unfold F256; omega
         rw [show thrC base v eps dt = cnC (thruC base v eps dt) from if_pos hg, decide_eq_true hg]
         exact pc_through (wC base) (wC v) (wC (v - base)) (wC eps) (wC (v - base - eps)) (wC (v - base + eps)) (wC (dt : Int)) (frC (redF (v - base - eps) dt)) (frC (redF (v - base + eps) dt)) v eps dt true true true true true w rfl (wC_one _) rfl (wC_one _) rfl (wC_one _) rfl (wC_one _) (frC_rc _) (frC_rc _) ge ge2 g3 hd
           (hide kb) (hide (fun w => c_ofi v1 v2 w)) (hide (fun w => c_sub hv hb rfl hq w)) (hide (fun w => c_ofi e1 e2 w)) (hide (fun w => c_sub hq he rfl hlo w)) (hide (fun w => c_add hq he rfl hhi w)) (hide (fun w => c_ofu hd w)) (hide (fun w => makeP hlo hdd (by omega) hok.1 w)) (hide (fun w => makeP hhi hdd (by omega) hok.2.1 w))
       · have hg : ¬ ThrGood base eps dt := fun h => g3 h.2.2.2
         rw [show thrC base v eps dt = z21 from if_neg hg, decide_eq_false hg]
         obtain rfl : dt = 0 := by omega
         exact pc_through4 (wC base) v eps 0 w rfl (wC_one _) (hide kb) ge ge2
     · have hg : ¬ ThrGood base eps dt := fun h => ge2 h.2.2.1
       rw [show thrC base v eps dt = z21 from if_neg hg, decide_eq_false hg]
       exact pc_through3 (wC base) v eps dt w rfl (wC_one _) (hide kb) (by omega)
   · have hg : ¬ ThrGood base eps dt := fun h => ge h.2.1
     rw [show thrC base v eps dt = z21 from if_neg hg, decide_eq_false hg]
     exact pc_through2 (wC base) v eps dt w rfl (wC_one _) (hide kb) (by omega)
 · have hg : ¬ ThrGood base eps dt := fun h => g1 h.1
   rw [decide_eq_false g1] at kb
   rw [show thrC base v eps dt = z21 from if_neg hg, decide_eq_false hg]
   exact pc_through1 (wC base) v eps dt w rfl (wC_one _) (hide kb)
end
section
open Go Go.RowKit
theorem shr_cast' (u m : Nat) : (u : Int) / 2 ^ m = ((u >>> m : Nat) : Int) := by rw [Nat.shiftRight_eq_div_pow]; simp
theorem shr_le' {u q k : Nat} (hu : u < 18446744073709551616) (h : k ≤ q) : u >>> q ≤ 18446744073709551615 / 2 ^ k := by
 rw [Nat.shiftRight_eq_div_pow]
 exact Nat.le_trans (Nat.div_le_div_left (Nat.pow_le_pow_right (by omega) h) (Nat.two_pow_pos k)) (Nat.div_le_div_right (by omega))
def Tol (v : Int) : Prop := 0 ≤ v ∧ v ≤ 4611686018427387904
set_option maxHeartbeats 3200000 in
set_option maxRecDepth 100000 in
theorem t_tol (B b : Nat) (W w : World) (hT : TapeOk B w b) (hU : Upd b W w) : Calls Try.prog 15 #[.pointer (some ⟨b, 0, none⟩)] w (NextPost B b Tol .i64 W) := by
 have i8 : I64 8 := ⟨by omega, by omega⟩
 have i2 : I64 2 := ⟨by omega, by omega⟩
 have i60 : I64 60 := ⟨by omega, by omega⟩
 have i30 : I64 30 := ⟨by omega, by omega⟩
 have HT := hide hT
 have HU := hide hU
 clear hT hU
 go_enter Try.func15, Try.ntmps15
 go_upto_region 2 with (go_at_call 9; (with_reducible refine (t_next B b 8 _ i8 HT.out).mono ?_); rintro e w1 ⟨x, rfl, hx, T1, u1⟩; have T1 := hide T1; have U1 := hide (HU.out.trans u1); have x0 := hx.1; clear hx u1 HT HU)
 by_cases h0 : x = 0
 · have d0 : (x == 0) = true := by rw [beq_iff_eq]; exact h0
   clear h0 x0
   go_wp2_with fail
   go_ret
   exact ⟨0, rfl, ⟨by omega, by omega⟩, T1.out, U1.out⟩
 have d0 : (x == 0) = false := by rw [beq_eq_false_iff_ne]; exact h0
 by_cases h1 : x = 1
 · have d1 : (x == 1) = true := by rw [beq_iff_eq]; exact h1
   clear h0 x0 h1
   go_upto_region 5 with fail
   go_upto_region 9 with (go_at_call 9; (with_reducible refine (t_next B b 2 _ i2 T1.out).mono ?_); rintro e w2 ⟨y, rfl, hy, T2, u2⟩; have T2 := hide T2; have U2 := hide (U1.out.trans u2); have y0 := hy.1; have y1 := hy.2.1 (by omega); obtain ⟨z, hz⟩ : ∃ z, 4611686018427387904 - y = z := ⟨_, rfl⟩; have z1 : 0 ≤ z := (by omega); have z2 : z ≤ 4611686018427387904 := (by omega); clear hy u2 T1 U1 y0 y1)
   go_ret
   exact ⟨z, rfl, ⟨z1, z2⟩, T2.out, U2.out⟩
 have d1 : (x == 1) = false := by rw [beq_eq_false_iff_ne]; exact h1
 by_cases h2 : x = 2
 · have d2 : (x == 2) = true := by rw [beq_iff_eq]; exact h2
   clear h0 x0 h1 h2
   go_upto_region 7 with fail
   go_wp2_with (first
     | (go_at_call 8; (with_reducible refine (t_word B b _ T1.out).mono ?_); rintro e w3 ⟨u, rfl, hu, T3, u3⟩; obtain ⟨xw, rfl⟩ := Int.eq_ofNat_of_zero_le hu.1; have hxw : xw < 18446744073709551616 := (by have := hu.2; omega); have T3 := hide T3; have U3 := hide (U1.out.trans u3); clear hu u3 T1 U1)
     | (go_at_call 9; (with_reducible refine (t_next B b 60 _ i60 T3.out).mono ?_); rintro e w4 ⟨s, rfl, hs, T4, u4⟩; obtain ⟨y, rfl⟩ := Int.eq_ofNat_of_zero_le hs.1; have hy : y < 60 := (by have := hs.2.1 (by omega); omega); obtain ⟨q, hq⟩ : ∃ q : Nat, 2 + y = q := ⟨_, rfl⟩; have eq1 : (2 : Int) + (y : Int) = (q : Int) := (by omega); have hr := shr_le' (q := q) (k := 2) hxw (by omega); have e1 := shr_cast' xw q; obtain ⟨r, hrr⟩ : ∃ r, xw >>> q = r := ⟨_, rfl⟩; rw [hrr] at e1 hr; have hr2 : r ≤ 4611686018427387904 := (Nat.le_trans hr (by decide)); have hq2 : q ≤ 64 := (by omega); clear hq hr hrr; have T4 := hide T4; have U4 := hide (U3.out.trans u4); clear hs u4 T3 U3))
   go_ret
   exact ⟨r, by go_num, ⟨by omega, by omega⟩, T4.out, U4.out⟩
 have d2 : (x == 2) = false := by rw [beq_eq_false_iff_ne]; exact h2
 clear h0 x0 h1 h2
 go_wp2_with (go_at_call 9; (with_reducible refine (t_next B b 30 _ i30 T1.out).mono ?_); rintro e w2 ⟨y, rfl, hy, T2, u2⟩; have T2 := hide T2; have U2 := hide (U1.out.trans u2); have y0 := hy.1; have y1 := hy.2.1 (by omega); clear hy u2 T1 U1)
 go_ret
 exact ⟨y, rfl, ⟨y0, by omega⟩, T2.out, U2.out⟩
end
section
open Go Go.RowKit
section
variable {l : List Oper} {a0 : Act} {W : World} {P : Program} {Q : Exit → Act → World → Prop}
theorem wp_evA {id : Nat} (kd : List Tg) (nd : List Nat) (V : (Nat → Value) → List Value) (zero : Nat → Obj) (full : (Nat → Value) → Nat → Obj) (tgt : Nat → Nat) (T : Nat → (Nat → Value) → World → Prop) (E : Nat → Prop) (A : (Nat → Value) → Act) (F : (Nat → Value) → (Nat → Nat) → Act) (hF : ∀ R G, putE l kd (V R) R G 0 a0 = F R G) (hA : ∀ R, F R (fun _ => 0) = A R) (hm : P.follows .mixedOrders = true) (hck : chkE l kd = true) (hnd : ndB l kd nd = true) (hdst : dstB l a0.tmps.size = true) (h4 : kd.length = l.length) (h5 : ∀ R, (V R).length = l.length)
   (hE : ∀ k, E k → k < W.heap.size) (hEt : ∀ c, Tg.so c ∈ kd → ¬ E (tgt c)) (htg : ∀ c, Tg.so c ∈ kd → tgt c < W.heap.size) (htd : ∀ c c', Tg.so c ∈ kd → Tg.so c' ∈ kd → tgt c = tgt c' → c = c') (hV : ∀ R R', Stab nd R R' 0 (V R) (V R')) (hFu : ∀ R R' i, (∀ m, m < nd.getD i 0 → R m = R' m) → full R i = full R' i)
   (hTB : ∀ s R w w', T s R w → Below w.heap.size w w' → T s R w') (hT0 : T 0 (fun _ => undef) W.drew)
   (hops : AllOps (RuleE P T E l kd nd V zero full tgt W A) 0 l)
   (hend : ∀ s R G w, EInv T E l kd zero full tgt W (List.range l.length) s R G w → ∀ f, f = F R G → Q .normal f w) :
   (Code.region id l.toArray true).wp P Q a0 W := by
 have e : A = fun R => putE l kd (V R) R (fun _ => 0) 0 a0 := funext fun R => ((hF R _).trans (hA R)).symm
 rw [e] at hops
 exact wp_ev kd nd V zero full tgt T E hm hck hnd hdst h4 h5 hE hEt htg htd hV hFu hTB hT0 hops (fun s R G w hI => hend s R G w hI _ (hF R G))
theorem wp_evsA {id : Nat} (kd : List Tg) (nd : List Nat) (V : (Nat → Value) → List Value) (zero : Nat → Obj) (full : (Nat → Value) → Nat → Obj) (tgt : Nat → Nat) (T : Nat → (Nat → Value) → World → Prop) (E : Nat → Prop) (A : (Nat → Value) → Act) (F : (Nat → Value) → (Nat → Nat) → Act) (hF : ∀ R G, putE l kd (V R) R G 0 a0 = F R G) (hA : ∀ R, F R (fun _ => 0) = A R) (hck : chkE l kd = true) (hnd : ndB l kd nd = true) (hdst : dstB l a0.tmps.size = true) (h4 : kd.length = l.length) (h5 : ∀ R, (V R).length = l.length)
   (hE : ∀ k, E k → k < W.heap.size) (hEt : ∀ c, Tg.so c ∈ kd → ¬ E (tgt c)) (htg : ∀ c, Tg.so c ∈ kd → tgt c < W.heap.size) (htd : ∀ c c', Tg.so c ∈ kd → Tg.so c' ∈ kd → tgt c = tgt c' → c = c') (hV : ∀ R R', Stab nd R R' 0 (V R) (V R')) (hFu : ∀ R R' i, (∀ m, m < nd.getD i 0 → R m = R' m) → full R i = full R' i)
   (hTB : ∀ s R w w', T s R w → Below w.heap.size w w' → T s R w') (hT0 : T 0 (fun _ => undef) W)
   (hops : AllOps (RuleE P T E l kd nd V zero full tgt W A) 0 l)
   (hend : ∀ s R G w, EInv T E l kd zero full tgt W (List.range l.length) s R G w → ∀ f, f = F R G → Q .normal f w) :
   (Code.region id l.toArray false).wp P Q a0 W := by
 have e : A = fun R => putE l kd (V R) R (fun _ => 0) 0 a0 := funext fun R => ((hF R _).trans (hA R)).symm
 rw [e] at hops
 exact wp_evs kd nd V zero full tgt T E hck hnd hdst h4 h5 hE hEt htg htd hV hFu hTB hT0 hops (fun s R G w hI => hend s R G w hI _ (hF R G))
end
end
section
open Go Go.RowKit
attribute [local go_sem] qUpon eUpon putE slE
theorem q_idx {a : Act} {o : Oper} {w : World} {ty : TypeId} {x i : Operand} {u j v : Value} (ho : o.op = .indexAddr ty x i) (hx : a.eval x = u) (hi : a.eval i = j) (hr : (Instr.indexAt ty u j).run Try.prog w = .ok v w) : qUpon Try.prog w v ((execOp a.eval o).run Try.prog w) := by
 unfold execOp
 simp only [ho, hx, hi, Sem.run_bind, hr, Result.andThen_ok, Sem.run_pure]
 exact ⟨rfl, rfl⟩
def TS (B b : Nat) (W0 : World) (X : List (Value → Prop)) (n len : Nat) (ty : TypeId) (row : (Nat → Value) → Array Value) (s : Nat) (R : Nat → Value) (w : World) : Prop :=
 TE B b W0 (XA X) s R w ∧ (n < s → ∃ g, R n = .slice (some ⟨g, 0, none⟩) len len ∧ W0.heap.size ≤ g ∧ Blk w g ty (row R))
theorem ts_below {B b : Nat} {W0 : World} {X : List (Value → Prop)} {n len : Nat} {ty : TypeId} {row : (Nat → Value) → Array Value} : ∀ s R w w', TS B b W0 X n len ty row s R w → Below w.heap.size w w' → TS B b W0 X n len ty row s R w' := fun s R w w' h k =>
 ⟨te_below s R w w' h.1 k, fun hs => by
   obtain ⟨g, h1, h2, h3⟩ := h.2 hs
   exact ⟨g, h1, h2, (k.block g h3.lt).trans h3⟩⟩
theorem te_below' {B b : Nat} {W0 : World} {X : List (Value → Prop)} {m : Nat} {R : Nat → Value} {w w' : World} {r : Value} (h : TE B b W0 (XA X) m R w) (k : Below w.heap.size w w') (hX : X.length ≤ m := by decide) : TE B b W0 (XA X) (m + 1) (updR R m r) w' :=
 ⟨h.1.ext k, h.2.1.more k, fun j p hp hj => by
   have hl : j < X.length := (List.getElem?_eq_some_iff.1 hp).1
   unfold updR
   rw [if_neg (by omega)]
   exact h.2.2 j p hp (by omega)⟩
theorem ts_ev {B b : Nat} {W0 : World} {X : List (Value → Prop)} {n len : Nat} {ty : TypeId} {row : (Nat → Value) → Array Value} {m : Nat} {R : Nat → Value} {w w' : World} {r : Value} (h : TS B b W0 X n len ty row m R w) (hT : TapeOk B w' b) (hU : Upd b w w') (hX : XA X (m + 1) (updR R m r)) (hn : m < n := by decide) : TS B b W0 X n len ty row (m + 1) (updR R m r) w' ∧ GrowE (fun k => k = b) w w' :=
 ⟨⟨(te_ev h.1 hT hU hX).1, fun hs => absurd hs (by omega)⟩, (te_ev h.1 hT hU hX).2⟩
theorem RC.fill1 {S : Array Value} (h : RC S) : ∃ (c0 c1 c2 c3 c4 c5 c6 c7 c8 c9 : Value), S = #[c0, c1, c2, c3, c4, c5, c6, c7, c8, c9] := by
 obtain ⟨s, a, b, c, d, t, e, f, g, i, rfl⟩ := h
 exact ⟨_, _, _, _, _, _, _, _, _, _, rfl⟩
def zRat : Value := .agg zR
theorem run_rats (w : World) (len : Nat) (parts : Array (Nat × Value)) (cells : Array Value) (hs : ¬ len * 10 > 2 ^ 24) (hp : ¬ len * 10 = 0)
   (h : Instr.fill (fun i => some (i * 10, 10)) ((Array.range (len * 10)).map (zR[· % 10]!)) parts.toList = some cells) :
   (Instr.buildSlice 47 len parts).run Try.prog w = .ok (.slice (some ⟨w.heap.size, 0, none⟩) len len) (w.alloc (.cells cells 40)) := by
 have hi : (Try.prog.info? 40).map (fun i => (i.size, i.zero)) = some (10, some zRat) := by kernel_rfl
 obtain ⟨ie, hie, hz, hsz⟩ : ∃ ie, Try.prog.info? 40 = some ie ∧ ie.zero = some zRat ∧ ie.size = 10 := by
   cases hj : Try.prog.info? 40 with
   | none => rw [hj] at hi; cases hi
   | some j =>
     rw [hj] at hi
     simp only [Option.map_some, Option.some.injEq, Prod.mk.injEq] at hi
     exact ⟨j, rfl, hi.2, hi.1⟩
 refine run_buildSlice w 47 40 len parts cells ie zRat (by kernel_rfl) hie hz (by rw [hsz]; exact hs) (by rw [hsz]; exact hp) ?_
 rw [hsz]
 exact h
theorem fill4 {S0 S1 S2 S3 : Array Value} (h0 : RC S0) (h1 : RC S1) (h2 : RC S2) (h3 : RC S3) : Instr.fill (fun i => some (i * 10, 10)) ((Array.range (4 * 10)).map (zR[· % 10]!)) [(0, .agg S0), (1, .agg S1), (2, .agg S2), (3, .agg S3)] = some (S0 ++ S1 ++ S2 ++ S3) := by
 obtain ⟨a0, a1, a2, a3, a4, a5, a6, a7, a8, a9, rfl⟩ := h0.fill1
 obtain ⟨b0, b1, b2, b3, b4, b5, b6, b7, b8, b9, rfl⟩ := h1.fill1
 obtain ⟨c0, c1, c2, c3, c4, c5, c6, c7, c8, c9, rfl⟩ := h2.fill1
 obtain ⟨d0, d1, d2, d3, d4, d5, d6, d7, d8, d9, rfl⟩ := h3.fill1
 clear h0 h1 h2 h3
 kernel_rfl
theorem ev_build {T : Nat → (Nat → Value) → World → Prop} {E : Nat → Prop} {m : Nat} {R : Nat → Value} {w : World} {a : Act} {o : Oper} {len : Nat} {parts : Array (Nat × Operand)} {vs : Array (Nat × Value)} {cells : Array Value} (ho : o.op = .buildSlice 47 len parts) (hx : (parts.map fun (i, x) => (i, a.eval x)) = vs) (hs : ¬ len * 10 > 2 ^ 24) (hp : ¬ len * 10 = 0)
   (hf : Instr.fill (fun i => some (i * 10, 10)) ((Array.range (len * 10)).map (zR[· % 10]!)) vs.toList = some cells)
   (hT : T (m + 1) (updR R m (.slice (some ⟨w.heap.size, 0, none⟩) len len)) (w.alloc (.cells cells 40))) (hG : GrowE E w (w.alloc (.cells cells 40))) : eUpon Try.prog T E m R w ((execOp a.eval o).run Try.prog w) := by
 have hr := run_rats w len vs cells hs hp hf
 unfold execOp
 simp only [ho, hx, Sem.run_bind, hr, Result.andThen_ok, Sem.run_pure]
 exact ⟨hT, hG⟩
theorem ev_rats4 {T : Nat → (Nat → Value) → World → Prop} {E : Nat → Prop} {m : Nat} {R : Nat → Value} {w : World} {a : Act} {o : Oper} {S0 S1 S2 S3 : Array Value} {parts : Array (Nat × Operand)} (ho : o.op = .buildSlice 47 4 parts) (hx : (parts.map fun (i, x) => (i, a.eval x)) = #[(0, .agg S0), (1, .agg S1), (2, .agg S2), (3, .agg S3)]) (h0 : RC S0) (h1 : RC S1) (h2 : RC S2) (h3 : RC S3)
   (hT : T (m + 1) (updR R m (.slice (some ⟨w.heap.size, 0, none⟩) 4 4)) (w.alloc (.cells (S0 ++ S1 ++ S2 ++ S3) 40))) (hG : GrowE E w (w.alloc (.cells (S0 ++ S1 ++ S2 ++ S3) 40))) : eUpon Try.prog T E m R w ((execOp a.eval o).run Try.prog w) :=
 ev_build ho hx (by decide) (by decide) (fill4 h0 h1 h2 h3) hT hG
theorem part4_0 {S0 S1 S2 S3 : Array Value} (h0 : RC S0) (h1 : RC S1) (h2 : RC S2) (h3 : RC S3) : (S0 ++ S1 ++ S2 ++ S3).extract (0 * 10) (0 * 10 + 10) = S0 := by
 obtain ⟨a0, a1, a2, a3, a4, a5, a6, a7, a8, a9, rfl⟩ := h0.fill1
 obtain ⟨b0, b1, b2, b3, b4, b5, b6, b7, b8, b9, rfl⟩ := h1.fill1
 obtain ⟨c0, c1, c2, c3, c4, c5, c6, c7, c8, c9, rfl⟩ := h2.fill1
 obtain ⟨d0, d1, d2, d3, d4, d5, d6, d7, d8, d9, rfl⟩ := h3.fill1
 clear h0 h1 h2 h3
 kernel_rfl
theorem part4_1 {S0 S1 S2 S3 : Array Value} (h0 : RC S0) (h1 : RC S1) (h2 : RC S2) (h3 : RC S3) : (S0 ++ S1 ++ S2 ++ S3).extract (1 * 10) (1 * 10 + 10) = S1 := by
 obtain ⟨a0, a1, a2, a3, a4, a5, a6, a7, a8, a9, rfl⟩ := h0.fill1
 obtain ⟨b0, b1, b2, b3, b4, b5, b6, b7, b8, b9, rfl⟩ := h1.fill1
 obtain ⟨c0, c1, c2, c3, c4, c5, c6, c7, c8, c9, rfl⟩ := h2.fill1
 obtain ⟨d0, d1, d2, d3, d4, d5, d6, d7, d8, d9, rfl⟩ := h3.fill1
 clear h0 h1 h2 h3
 kernel_rfl
theorem part4_2 {S0 S1 S2 S3 : Array Value} (h0 : RC S0) (h1 : RC S1) (h2 : RC S2) (h3 : RC S3) : (S0 ++ S1 ++ S2 ++ S3).extract (2 * 10) (2 * 10 + 10) = S2 := by
 obtain ⟨a0, a1, a2, a3, a4, a5, a6, a7, a8, a9, rfl⟩ := h0.fill1
 obtain ⟨b0, b1, b2, b3, b4, b5, b6, b7, b8, b9, rfl⟩ := h1.fill1
 obtain ⟨c0, c1, c2, c3, c4, c5, c6, c7, c8, c9, rfl⟩ := h2.fill1
 obtain ⟨d0, d1, d2, d3, d4, d5, d6, d7, d8, d9, rfl⟩ := h3.fill1
 clear h0 h1 h2 h3
 kernel_rfl
theorem part4_3 {S0 S1 S2 S3 : Array Value} (h0 : RC S0) (h1 : RC S1) (h2 : RC S2) (h3 : RC S3) : (S0 ++ S1 ++ S2 ++ S3).extract (3 * 10) (3 * 10 + 10) = S3 := by
 obtain ⟨a0, a1, a2, a3, a4, a5, a6, a7, a8, a9, rfl⟩ := h0.fill1
 obtain ⟨b0, b1, b2, b3, b4, b5, b6, b7, b8, b9, rfl⟩ := h1.fill1
 obtain ⟨c0, c1, c2, c3, c4, c5, c6, c7, c8, c9, rfl⟩ := h2.fill1
 obtain ⟨d0, d1, d2, d3, d4, d5, d6, d7, d8, d9, rfl⟩ := h3.fill1
 clear h0 h1 h2 h3
 kernel_rfl
theorem part4 {S0 S1 S2 S3 : Array Value} (h0 : RC S0) (h1 : RC S1) (h2 : RC S2) (h3 : RC S3) : (S0 ++ S1 ++ S2 ++ S3).size = 40 ∧ ∀ k, k < 4 → ∃ S, ((k = 0 ∧ S = S0) ∨ (k = 1 ∧ S = S1) ∨ (k = 2 ∧ S = S2) ∨ (k = 3 ∧ S = S3)) ∧ (S0 ++ S1 ++ S2 ++ S3).extract (k * 10) (k * 10 + 10) = S := by
 refine ⟨by simp only [Array.size_append, h0.size, h1.size, h2.size, h3.size], fun k hk => ?_⟩
 obtain rfl | rfl | rfl | rfl : k = 0 ∨ k = 1 ∨ k = 2 ∨ k = 3 := by omega
 · exact ⟨_, Or.inl ⟨rfl, rfl⟩, part4_0 h0 h1 h2 h3⟩
 · exact ⟨_, Or.inr (Or.inl ⟨rfl, rfl⟩), part4_1 h0 h1 h2 h3⟩
 · exact ⟨_, Or.inr (Or.inr (Or.inl ⟨rfl, rfl⟩)), part4_2 h0 h1 h2 h3⟩
 · exact ⟨_, Or.inr (Or.inr (Or.inr (⟨rfl, rfl⟩))), part4_3 h0 h1 h2 h3⟩
theorem idxR (g N cap i k : Nat) (h : i < N) (hk : i * 10 = k) (w : World) : (Instr.indexAt 47 (.slice (some ⟨g, 0, none⟩) N cap) (.int .i64 (i : Int))).run Try.prog w = .ok (.pointer (some ⟨g, k, none⟩)) w := by
 have hz := Try.sizeOf40
 have he : Try.prog.elem 47 = 40 := by kernel_rfl
 have hr := run_indexAt_slice (P := Try.prog) (w := w) 47 ⟨g, 0, none⟩ N cap .i64 (i : Int) (by kernel_rfl)
 rw [hr, if_pos ⟨by omega, by omega⟩, he, hz]
 subst hk
 simp [Result.andThen, Addr.add]
 try (intro hh; omega)
end
end Go.Proofs.Ythlbkidgdngblaa
