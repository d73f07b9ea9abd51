/- Part 5 of what these claims stand on: contracts of the program's and the reference's functions, and plain facts. Conditions: each states its own. -/
import Derived.Test.YthlbkidgdngblaaPrT4
import Derived.Lib.QuietBelow
namespace Go.Proofs.Ythlbkidgdngblaa
set_option linter.unusedVariables false
set_option linter.unusedSimpArgs false
section
open Go Go.RowKit Go.Sort
attribute [local go_sem] qUpon eUpon putE slE
def limW : Array Value := #[.bool false, .int .u64 0, .int .u64 4, .int .u64 0, .int .u64 0]
theorem limW_one : limW.all (·.oneCell') = true := by kernel_rfl
set_option maxHeartbeats 6400000 in
set_option maxRecDepth 100000 in
theorem rc_through (B S V D Ep Lo Hi U L H : Array Value) (v ep : Int) (dt : Nat) (r : Int) (o1 o2 o3 p1 p2 : Bool) (W : World) (sB : B.size = 5) (oB : B.all (·.oneCell') = true) (sS : S.size = 5) (oS : S.all (·.oneCell') = true) (nb : Bool) (hB0 : B[0]? = some (.bool nb)) (hS : B.setIfInBounds 0 (.bool false) = S)
   (sD : D.size = 5) (oD : D.all (·.oneCell') = true) (sLo : Lo.size = 5) (oLo : Lo.all (·.oneCell') = true) (sHi : Hi.size = 5) (oHi : Hi.all (·.oneCell') = true) (rL : RC L) (rH : RC H) (hr : r < 0) (hdt : 0 < dt) (hdt2 : dt < 18446744073709551616)
   (k1 : Hid (∀ w, Calls Try.prog 62 #[.agg B] w (Ret (.bool true) w))) (k2 : Hid (∀ w, Calls Try.prog 23 #[.agg S, .agg limW] w (Ret (.int .i64 r) w))) (k3 : Hid (∀ w, Calls Try.prog 63 #[.int .i64 ep] w (Ret (.bool true) w)))
   (k4 : Hid (∀ w, Calls Try.prog 16 #[.int .i64 v] w (Ret (.agg V) w))) (k5 : Hid (∀ w, Calls Try.prog 22 #[.agg V, .agg B] w (Ret (.tuple #[.agg D, .bool o1]) w)))
   (k6 : Hid (∀ w, Calls Try.prog 16 #[.int .i64 ep] w (Ret (.agg Ep) w))) (k7 : Hid (∀ w, Calls Try.prog 22 #[.agg D, .agg Ep] w (Ret (.tuple #[.agg Lo, .bool o2]) w))) (k8 : Hid (∀ w, Calls Try.prog 25 #[.agg D, .agg Ep] w (Ret (.tuple #[.agg Hi, .bool o3]) w)))
   (k9 : Hid (∀ w, Calls Try.prog 21 #[.int .u64 (dt : Int)] w (Ret (.agg U) w))) (k10 : Hid (∀ w, Calls Try.prog 45 #[.agg Lo, .agg U] w (Ret (.tuple #[.agg L, .bool p1]) w))) (k11 : Hid (∀ w, Calls Try.prog 45 #[.agg Hi, .agg U] w (Ret (.tuple #[.agg H, .bool p2]) w))) :
   Calls Try.prog 36 #[.agg B, .int .i64 v, .int .i64 ep, .int .u64 (dt : Int)] W (Ret (.tuple #[.agg (coneC false L H), .bool true]) W) := by
 have d1 : decide (0 ≤ r) = false := decide_eq_false (by omega)
 have d2 : ((dt : Int) == 0) = false := by rw [beq_eq_false_iff_ne]; omega
 have d3 : decide (dt = 0) = false := decide_eq_false (by omega)
 have sL := rL.size
 have oL := rL.one
 have sH := rH.size
 have oH := rH.one
 have sC := coneC_size false sL sH
 have oC := cone_one false oL oH
 clear rL rH hr hdt
 have P4 := (Blk.new W 25 B).alloc (.cells z21 42)
 have P8 := Blk.new (W.alloc (.cells B 25)) 42 z21
 rw [alloc_size] at P8
 have EE := hide ((ext_alloc W (.cells B 25)).trans (ext_alloc _ (.cells z21 42)))
 obtain ⟨W1, hW1⟩ : ∃ W1, ((W.alloc (.cells B 25)).alloc (.cells z21 42)) = W1 := ⟨_, rfl⟩
 obtain ⟨g0, hg⟩ : ∃ g, W.heap.size = g := ⟨_, rfl⟩
 rw [hW1] at P4 P8 EE
 rw [hg] at P4 P8
 have P4_lo : W.heap.size ≤ g0 := by omega
 have P8_lo : W.heap.size ≤ g0 + 1 := by omega
 have HW := hide hW1
 have Hg := hide hg
 clear hW1 hg
 go_enter Try.func36, Try.ntmps36
 go_upto_region 1 with fail
 unfold z21 at HW
 rw [HW.out, Hg.out]
 clear HW Hg
 have P4_lt := P4.lt
 have P8_lt := P8.lt
 refine wp_evs [.q, .q, .al, .st 2] [0, 0, 0, 0] (fun R => [.agg (#[.int .u64 0, .int .u64 4, .int .u64 0, .int .u64 0]), .agg limW, undef, undef]) (fun _ => (.cells z5 25 (0, 0))) (fun R _ => (.cells limW 25 (0, 0))) (fun _ => 0) (XE W) (fun _ => False) (by kernel_rfl) (by kernel_rfl) (by kernel_rfl) rfl (fun _ => rfl) (fun _ h => h.elim) (fun _ _ h => h) (by simp) (by simp) (fun R R' => ⟨fun _ => rfl, fun _ => rfl, fun _ => rfl, fun _ => rfl, trivial⟩) (fun _ _ _ _ => rfl) xe_below EE.out ?ops4 ?end4
 case ops4 =>
   refine ⟨?_, ?_, ?_, ?_, trivial⟩
   · refine er_q ?vn1 ?hn1 ?kn1 ?gn1 ?_
     case hn1 => exact rfl
     case vn1 => exact (fun R => .agg (#[.int .u64 0, .int .u64 4, .int .u64 0, .int .u64 0]))
     case kn1 => exact (fun R => rfl)
     case gn1 => exact gd_none rfl
     intro R s w' hT hs hw ha
     go_simp
   · refine er_q ?vn2 ?hn2 ?kn2 ?gn2 ?_
     case hn2 => exact rfl
     case vn2 => exact (fun R => .agg limW)
     case kn2 => exact (fun R => rfl)
     case gn2 => exact gd_none rfl
     intro R s w' hT hs hw ha
     unfold limW
     go_simp
   · refine er_al ?zn3 ?hn3 ?kn3 ?gn3 ?_
     case zn3 => exact (.cells z5 25 (0, 0))
     case hn3 => exact rfl
     case kn3 => exact rfl
     case gn3 => exact gd_none rfl
     intro ρ w'
     go_simp
     exact ⟨rfl, rfl⟩
   · refine er_st (j := 2) (Ty := ?Tn4) (p := ?pn4) (x := ?xn4) ?fn4 ?zn4 ?vn4 ?hn4 ?on4 ?kn4 ?ln4 ?gn4 ?en4 ?_
     case hn4 => exact rfl
     case on4 => exact rfl
     case fn4 => exact (fun R => (.cells limW 25 (0, 0)))
     case zn4 => exact (.cells z5 25 (0, 0))
     case vn4 => exact (fun R => .agg limW)
     case kn4 => exact (fun R => rfl)
     case ln4 => exact rfl
     case gn4 => exact gd_none rfl
     case en4 =>
       intro R
       kernel_rfl
     intro R s ρ w g hT hs hp hx hg hz
     exact ⟨store_row rfl hp hx hz iWide (rfl) (limW_one), fun w1 hF => ext_filled hT hF (Nat.le_trans EE.out.size hg)⟩
 case end4 =>
  intro s R G w5 hI
  have hS := hI.same
  have hTT := hI.holds
  have hz0 := EE.out.size
  have P4 := P4.sameE hS (fun h => h) (by simp)
  have P8 := P8.sameE hS (fun h => h) (by simp)
  have P10 : Blk w5 (G 2) 25 limW := (hI.fulls 3 (List.mem_range.2 (show 3 < 4 by decide)) 2 rfl).2.2
  have hmP10 := (hI.made 2 (List.mem_range.2 (show 2 < 4 by decide)) rfl).1
  have P10_lo : W.heap.size ≤ G 2 := Nat.le_trans hz0 hmP10
  have ngP4_10 : g0 ≠ G 2 := by omega
  have ngP8_10 : g0 + 1 ≠ G 2 := by omega
  have EE := hide (show Ext _ _ from hTT)
  clear hS hz0 hTT hI
  generalize hF : putE _ _ _ _ _ _ _ = FF
  have hF2 : FF = { tmps := #[.agg B, .int .i64 v, .int .i64 ep, .int .u64 (dt : Int), .pointer (some ⟨g0, 0, none⟩), undef, undef, undef, .pointer (some ⟨g0 + 1, 0, none⟩), .bool false, .pointer (some ⟨G 2, 0, none⟩), undef, undef, undef, undef, undef, undef, undef, undef, .agg (#[.int .u64 0, .int .u64 4, .int .u64 0, .int .u64 0]), .agg limW, undef, undef, undef, undef, undef, undef, undef, undef, undef, undef, undef, undef, undef, undef, undef, undef, undef, undef, undef, undef, undef, undef, undef, undef, undef, undef, undef, undef, undef, undef, undef, undef, undef, undef, undef, undef, undef, undef, undef, undef, undef, undef, undef, undef, undef, undef, undef, undef, undef, undef, undef, undef, undef, undef, undef, undef, undef, undef, undef, undef], defers := [] } := by subst hF; kernel_rfl
  clear hF
  subst hF2
  generalize G 2 = g10 at *
  go_upto_region 2 with fail
  have P4_lt := P4.lt
  have P8_lt := P8.lt
  have P10_lt := P10.lt
  refine wp_evs [.q, .al, .st 1] [0, 0, 0] (fun R => [.agg B, undef, undef]) (fun _ => (.cells z5 25 (0, 0))) (fun R _ => (.cells B 25 (0, 0))) (fun _ => 0) (XE W) (fun _ => False) (by kernel_rfl) (by kernel_rfl) (by kernel_rfl) rfl (fun _ => rfl) (fun _ h => h.elim) (fun _ _ h => h) (by simp) (by simp) (fun R R' => ⟨fun _ => rfl, fun _ => rfl, fun _ => rfl, trivial⟩) (fun _ _ _ _ => rfl) xe_below EE.out ?ops8 ?end8
  case ops8 =>
    refine ⟨?_, ?_, ?_, trivial⟩
    · refine er_q ?vn6 ?hn6 ?kn6 ?gn6 ?_
      case hn6 => exact rfl
      case vn6 => exact (fun R => .agg B)
      case kn6 => exact (fun R => rfl)
      case gn6 => exact gd_none rfl
      intro R s w' hT hs hw ha
      have L := ld_all (P4.sameE hw (fun h => h) (by simp)) uWide rfl iWide sB
      generalize hA : putE _ _ _ _ _ _ _ = AA
      refine q_load rfl ?_ L
      subst hA
      kernel_rfl
    · refine er_al ?zn7 ?hn7 ?kn7 ?gn7 ?_
      case zn7 => exact (.cells z5 25 (0, 0))
      case hn7 => exact rfl
      case kn7 => exact rfl
      case gn7 => exact gd_none rfl
      intro ρ w'
      go_simp
      exact ⟨rfl, rfl⟩
    · refine er_st (j := 1) (Ty := ?Tn8) (p := ?pn8) (x := ?xn8) ?fn8 ?zn8 ?vn8 ?hn8 ?on8 ?kn8 ?ln8 ?gn8 ?en8 ?_
      case hn8 => exact rfl
      case on8 => exact rfl
      case fn8 => exact (fun R => (.cells B 25 (0, 0)))
      case zn8 => exact (.cells z5 25 (0, 0))
      case vn8 => exact (fun R => .agg B)
      case kn8 => exact (fun R => rfl)
      case ln8 => exact rfl
      case gn8 => exact gd_none rfl
      case en8 =>
        intro R
        kernel_rfl
      intro R s ρ w g hT hs hp hx hg hz
      exact ⟨store_row rfl hp hx hz iWide (sB) (oB), fun w1 hF => ext_filled hT hF (Nat.le_trans EE.out.size hg)⟩
  case end8 =>
   intro s R G w9 hI
   have hS := hI.same
   have hTT := hI.holds
   have hz0 := EE.out.size
   have P4 := P4.sameE hS (fun h => h) (by simp)
   have P8 := P8.sameE hS (fun h => h) (by simp)
   have P10 := P10.sameE hS (fun h => h) (by simp)
   have P11 : Blk w9 (G 1) 25 B := (hI.fulls 2 (List.mem_range.2 (show 2 < 3 by decide)) 1 rfl).2.2
   have hmP11 := (hI.made 1 (List.mem_range.2 (show 1 < 3 by decide)) rfl).1
   have P11_lo : W.heap.size ≤ G 1 := Nat.le_trans hz0 hmP11
   have ngP4_11 : g0 ≠ G 1 := by omega
   have ngP8_11 : g0 + 1 ≠ G 1 := by omega
   have ngP10_11 : g10 ≠ G 1 := by omega
   have EE := hide (show Ext _ _ from hTT)
   clear hS hz0 hTT hI
   generalize hF : putE _ _ _ _ _ _ _ = FF
   have hF2 : FF = { tmps := #[.agg B, .int .i64 v, .int .i64 ep, .int .u64 (dt : Int), .pointer (some ⟨g0, 0, none⟩), undef, undef, undef, .pointer (some ⟨g0 + 1, 0, none⟩), .bool false, .pointer (some ⟨g10, 0, none⟩), .pointer (some ⟨G 1, 0, none⟩), undef, undef, undef, undef, undef, undef, undef, .agg (#[.int .u64 0, .int .u64 4, .int .u64 0, .int .u64 0]), .agg limW, .agg B, undef, undef, undef, undef, undef, undef, undef, undef, undef, undef, undef, undef, undef, undef, undef, undef, undef, undef, undef, undef, undef, undef, undef, undef, undef, undef, undef, undef, undef, undef, undef, undef, undef, undef, undef, undef, undef, undef, undef, undef, undef, undef, undef, undef, undef, undef, undef, undef, undef, undef, undef, undef, undef, undef, undef, undef, undef, undef, undef], defers := [] } := by subst hF; kernel_rfl
   clear hF
   subst hF2
   generalize G 1 = g11 at *
   go_upto_region 3 with fail
   have P4_lt := P4.lt
   have P8_lt := P8.lt
   have P10_lt := P10.lt
   have P11_lt := P11.lt
   refine wp_evs [.q, .so 0] [0, 0] (fun R => [.pointer (some ⟨g11, 0, none⟩), undef]) (fun _ => (.cells #[] 0 (0, 0))) (fun R _ => (.cells S 25 (0, 0))) (fun _ => g11) (XE W) (fun _ => False) (by kernel_rfl) (by kernel_rfl) (by kernel_rfl) rfl (fun _ => rfl) (fun _ h => h.elim) (fun _ _ h => h) (by intro c hc; simp at hc; (try subst hc); (try simp only); omega) (by intro c c' h1 h2 _; simp at h1 h2; omega) (fun R R' => ⟨fun _ => rfl, fun _ => rfl, trivial⟩) (fun _ _ _ _ => rfl) xe_below EE.out ?ops11 ?end11
   case ops11 =>
     refine ⟨?_, ?_, trivial⟩
     · refine er_q ?vn10 ?hn10 ?kn10 ?gn10 ?_
       case hn10 => exact rfl
       case vn10 => exact (fun R => .pointer (some ⟨g11, 0, none⟩))
       case kn10 => exact (fun R => rfl)
       case gn10 => exact gd_none rfl
       intro R s w' hT hs hw ha
       go_simp
     · refine er_so (c := 0) (Ty := ?Tn11) (p := ?pn11) (x := ?xn11) g11 ?fn11 ?un11 ?vn11 ?hn11 ?on11 ?kn11 ?ln11 ?gn11 ?dn11 ?en11 ?_
       case hn11 => exact rfl
       case on11 => exact rfl
       case fn11 => exact (fun R => (.cells S 25 (0, 0)))
       case un11 => exact (fun R => .pointer (some ⟨g11, 0, none⟩))
       case vn11 => exact (fun R => .bool false)
       case kn11 => exact (fun R => rfl)
       case ln11 => exact rfl
       case gn11 => exact gd_none rfl
       case dn11 =>
         intro R
         kernel_rfl
       case en11 =>
         intro R
         kernel_rfl
       intro R s ρ w hT hs hp hx hz
       have hB := (show Blk w g11 _ B from hz.trans P11)
       have hc := (hB.cell 0).trans (hB0)
       have hf := hB.frozen 0
       refine ⟨store_at (g := g11) (Ty := 4) rfl hp hx (hz.trans P11) (hS) ?_, fun w1 hF => ext_filled hT hF P11_lo⟩
       go_simp
   case end11 =>
    intro s R G w12 hI
    have hS := hI.same
    have hTT := hI.holds
    have hz0 := EE.out.size
    have P4 := P4.sameE hS (fun h => h) (by intro c hc; simp at hc; (try subst hc); (try simp only); omega)
    have P8 := P8.sameE hS (fun h => h) (by intro c hc; simp at hc; (try subst hc); (try simp only); omega)
    have P10 := P10.sameE hS (fun h => h) (by intro c hc; simp at hc; (try subst hc); (try simp only); omega)
    have P11 : Blk w12 g11 25 S := hI.olds' 1 (List.mem_range.2 (show 1 < 2 by decide)) 0 rfl
    have EE := hide (show Ext _ _ from hTT)
    clear hS hz0 hTT hI
    generalize hF : putE _ _ _ _ _ _ _ = FF
    have hF2 : FF = { tmps := #[.agg B, .int .i64 v, .int .i64 ep, .int .u64 (dt : Int), .pointer (some ⟨g0, 0, none⟩), undef, undef, undef, .pointer (some ⟨g0 + 1, 0, none⟩), .bool false, .pointer (some ⟨g10, 0, none⟩), .pointer (some ⟨g11, 0, none⟩), undef, undef, undef, undef, undef, undef, undef, .agg (#[.int .u64 0, .int .u64 4, .int .u64 0, .int .u64 0]), .agg limW, .agg B, .pointer (some ⟨g11, 0, none⟩), undef, undef, undef, undef, undef, undef, undef, undef, undef, undef, undef, undef, undef, undef, undef, undef, undef, undef, undef, undef, undef, undef, undef, undef, undef, undef, undef, undef, undef, undef, undef, undef, undef, undef, undef, undef, undef, undef, undef, undef, undef, undef, undef, undef, undef, undef, undef, undef, undef, undef, undef, undef, undef, undef, undef, undef, undef, undef], defers := [] } := by subst hF; kernel_rfl
    clear hF
    subst hF2
    go_upto_region 4 with fail
    have P4_lt := P4.lt
    have P8_lt := P8.lt
    have P10_lt := P10.lt
    have P11_lt := P11.lt
    refine wp_evs [.q, .q, .q, .q, .q, .q, .q, .q, .q, .q, .q, .q, .q, .q, .q, .q, .q, .q] [0, 0, 0, 0, 0, 0, 0, 0, 0, 0, 0, 0, 0, 0, 0, 0, 0, 0] (fun R => [.agg B, .bool true, .bool false, .bool false, .agg S, .agg limW, .int .i64 r, .bool false, .bool false, .bool false, .int .i64 ep, .bool true, .bool false, .bool false, .bool false, .int .u64 (dt : Int), .bool false, .bool false]) (fun _ => (.cells #[] 0 (0, 0))) (fun R _ => (.cells #[] 0 (0, 0))) (fun _ => 0) (XE W) (fun _ => False) (by kernel_rfl) (by kernel_rfl) (by kernel_rfl) rfl (fun _ => rfl) (fun _ h => h.elim) (fun _ _ h => h) (by simp) (by simp) (fun R R' => ⟨fun _ => rfl, fun _ => rfl, fun _ => rfl, fun _ => rfl, fun _ => rfl, fun _ => rfl, fun _ => rfl, fun _ => rfl, fun _ => rfl, fun _ => rfl, fun _ => rfl, fun _ => rfl, fun _ => rfl, fun _ => rfl, fun _ => rfl, fun _ => rfl, fun _ => rfl, fun _ => rfl, trivial⟩) (fun _ _ _ _ => rfl) xe_below EE.out ?ops30 ?end30
    case ops30 =>
      refine ⟨?_, ?_, ?_, ?_, ?_, ?_, ?_, ?_, ?_, ?_, ?_, ?_, ?_, ?_, ?_, ?_, ?_, ?_, trivial⟩
      · refine er_q ?vn13 ?hn13 ?kn13 ?gn13 ?_
        case hn13 => exact rfl
        case vn13 => exact (fun R => .agg B)
        case kn13 => exact (fun R => rfl)
        case gn13 => exact gd_none rfl
        intro R s w' hT hs hw ha
        have L := ld_all (P4.sameE hw (fun h => h) (by simp)) uWide rfl iWide sB
        generalize hA : putE _ _ _ _ _ _ _ = AA
        refine q_load rfl ?_ L
        subst hA
        kernel_rfl
      · refine er_q ?vn14 ?hn14 ?kn14 ?gn14 ?_
        case hn14 => exact rfl
        case vn14 => exact (fun R => .bool true)
        case kn14 => exact (fun R => rfl)
        case gn14 => exact gd_none rfl
        intro R s w' hT hs hw ha
        go_simp
        exact k1.out w'
      · refine er_q ?vn15 ?hn15 ?kn15 ?gn15 ?_
        case hn15 => exact rfl
        case vn15 => exact (fun R => .bool false)
        case kn15 => exact (fun R => rfl)
        case gn15 => exact gd_none rfl
        intro R s w' hT hs hw ha
        go_simp
      · refine er_q ?vn16 ?hn16 ?kn16 ?gn16 ?_
        case hn16 => exact rfl
        case vn16 => exact (fun R => .bool false)
        case kn16 => exact (fun R => rfl)
        case gn16 => exact gd_none rfl
        intro R s w' hT hs hw ha
        go_simp
      · refine er_q ?vn17 ?hn17 ?kn17 ?gn17 ?_
        case hn17 => exact rfl
        case vn17 => exact (fun R => .agg S)
        case kn17 => exact (fun R => rfl)
        case gn17 => (refine gd_some rfl ?_; intro R; kernel_rfl)
        intro R s w' hT hs hw ha
        have L := ld_all (P11.sameE hw (fun h => h) (by simp)) uWide rfl iWide sS
        generalize hA : putE _ _ _ _ _ _ _ = AA
        refine q_load rfl ?_ L
        subst hA
        kernel_rfl
      · refine er_q ?vn18 ?hn18 ?kn18 ?gn18 ?_
        case hn18 => exact rfl
        case vn18 => exact (fun R => .agg limW)
        case kn18 => exact (fun R => rfl)
        case gn18 => (refine gd_some rfl ?_; intro R; kernel_rfl)
        intro R s w' hT hs hw ha
        have L := ld_all (P10.sameE hw (fun h => h) (by simp)) uWide rfl iWide rfl
        generalize hA : putE _ _ _ _ _ _ _ = AA
        refine q_load rfl ?_ L
        subst hA
        kernel_rfl
      · refine er_q ?vn19 ?hn19 ?kn19 ?gn19 ?_
        case hn19 => exact rfl
        case vn19 => exact (fun R => .int .i64 r)
        case kn19 => exact (fun R => rfl)
        case gn19 => (refine gd_some rfl ?_; intro R; kernel_rfl)
        intro R s w' hT hs hw ha
        go_simp
        exact k2.out w'
      · refine er_q ?vn20 ?hn20 ?kn20 ?gn20 ?_
        case hn20 => exact rfl
        case vn20 => exact (fun R => .bool false)
        case kn20 => exact (fun R => rfl)
        case gn20 => (refine gd_some rfl ?_; intro R; kernel_rfl)
        intro R s w' hT hs hw ha
        go_simp
      · refine er_q ?vn21 ?hn21 ?kn21 ?gn21 ?_
        case hn21 => exact rfl
        case vn21 => exact (fun R => .bool false)
        case kn21 => exact (fun R => rfl)
        case gn21 => exact gd_none rfl
        intro R s w' hT hs hw ha
        go_simp
      · refine er_q ?vn22 ?hn22 ?kn22 ?gn22 ?_
        case hn22 => exact rfl
        case vn22 => exact (fun R => .bool false)
        case kn22 => exact (fun R => rfl)
        case gn22 => exact gd_none rfl
        intro R s w' hT hs hw ha
        go_simp
      · refine er_q ?vn23 ?hn23 ?kn23 ?gn23 ?_
        case hn23 => exact rfl
        case vn23 => exact (fun R => .int .i64 ep)
        case kn23 => exact (fun R => rfl)
        case gn23 => (refine gd_some rfl ?_; intro R; kernel_rfl)
        intro R s w' hT hs hw ha
        go_simp
      · refine er_q ?vn24 ?hn24 ?kn24 ?gn24 ?_
        case hn24 => exact rfl
        case vn24 => exact (fun R => .bool true)
        case kn24 => exact (fun R => rfl)
        case gn24 => (refine gd_some rfl ?_; intro R; kernel_rfl)
        intro R s w' hT hs hw ha
        go_simp
        exact k3.out w'
      · refine er_q ?vn25 ?hn25 ?kn25 ?gn25 ?_
        case hn25 => exact rfl
        case vn25 => exact (fun R => .bool false)
        case kn25 => exact (fun R => rfl)
        case gn25 => (refine gd_some rfl ?_; intro R; kernel_rfl)
        intro R s w' hT hs hw ha
        go_simp
      · refine er_q ?vn26 ?hn26 ?kn26 ?gn26 ?_
        case hn26 => exact rfl
        case vn26 => exact (fun R => .bool false)
        case kn26 => exact (fun R => rfl)
        case gn26 => exact gd_none rfl
        intro R s w' hT hs hw ha
        go_simp
      · refine er_q ?vn27 ?hn27 ?kn27 ?gn27 ?_
        case hn27 => exact rfl
        case vn27 => exact (fun R => .bool false)
        case kn27 => exact (fun R => rfl)
        case gn27 => exact gd_none rfl
        intro R s w' hT hs hw ha
        go_simp
      · refine er_q ?vn28 ?hn28 ?kn28 ?gn28 ?_
        case hn28 => exact rfl
        case vn28 => exact (fun R => .int .u64 (dt : Int))
        case kn28 => exact (fun R => rfl)
        case gn28 => (refine gd_some rfl ?_; intro R; kernel_rfl)
        intro R s w' hT hs hw ha
        go_simp
      · refine er_q ?vn29 ?hn29 ?kn29 ?gn29 ?_
        case hn29 => exact rfl
        case vn29 => exact (fun R => .bool false)
        case kn29 => exact (fun R => rfl)
        case gn29 => (refine gd_some rfl ?_; intro R; kernel_rfl)
        intro R s w' hT hs hw ha
        go_simp
      · refine er_q ?vn30 ?hn30 ?kn30 ?gn30 ?_
        case hn30 => exact rfl
        case vn30 => exact (fun R => .bool false)
        case kn30 => exact (fun R => rfl)
        case gn30 => exact gd_none rfl
        intro R s w' hT hs hw ha
        go_simp
    case end30 =>
     intro s R G w31 hI
     have hS := hI.same
     have hTT := hI.holds
     have hz0 := EE.out.size
     have P4 := P4.sameE hS (fun h => h) (by simp)
     have P8 := P8.sameE hS (fun h => h) (by simp)
     have P10 := P10.sameE hS (fun h => h) (by simp)
     have P11 := P11.sameE hS (fun h => h) (by simp)
     have EE := hide (show Ext _ _ from hTT)
     clear hS hz0 hTT hI
     generalize hF : putE _ _ _ _ _ _ _ = FF
     have hF2 : FF = { tmps := #[.agg B, .int .i64 v, .int .i64 ep, .int .u64 (dt : Int), .pointer (some ⟨g0, 0, none⟩), undef, undef, undef, .pointer (some ⟨g0 + 1, 0, none⟩), .bool false, .pointer (some ⟨g10, 0, none⟩), .pointer (some ⟨g11, 0, none⟩), undef, undef, undef, undef, undef, undef, undef, .agg (#[.int .u64 0, .int .u64 4, .int .u64 0, .int .u64 0]), .agg limW, .agg B, .pointer (some ⟨g11, 0, none⟩), .agg B, .bool true, .bool false, .bool false, .agg S, .agg limW, .int .i64 r, .bool false, .bool false, .bool false, .int .i64 ep, .bool true, .bool false, .bool false, .bool false, .int .u64 (dt : Int), .bool false, .bool false, undef, undef, undef, undef, undef, undef, undef, undef, undef, undef, undef, undef, undef, undef, undef, undef, undef, undef, undef, undef, undef, undef, undef, undef, undef, undef, undef, undef, undef, undef, undef, undef, undef, undef, undef, undef, undef, undef, undef, undef], defers := [] } := by subst hF; kernel_rfl
     clear hF
     subst hF2
     go_upto_region 6 with fail
     have P4_lt := P4.lt
     have P8_lt := P8.lt
     have P10_lt := P10.lt
     have P11_lt := P11.lt
     refine wp_ev [.q, .q, .q, .q, .q, .q, .q, .al, .st 7, .q] [0, 0, 0, 0, 0, 0, 0, 0, 0, 0] (fun R => [.int .i64 v, .agg V, .agg B, .tuple #[.agg D, .bool o1], .tuple #[.agg D, .bool o1], .agg D, .bool o1, undef, undef, .bool o1]) (fun _ => (.cells z5 25 (0, 0))) (fun R _ => (.cells D 25 (0, 0))) (fun _ => 0) (XE W) (fun _ => False) (by kernel_rfl) (by kernel_rfl) (by kernel_rfl) (by kernel_rfl) rfl (fun _ => rfl) (fun _ h => h.elim) (fun _ _ h => h) (by simp) (by simp) (fun R R' => ⟨fun _ => rfl, fun _ => rfl, fun _ => rfl, fun _ => rfl, fun _ => rfl, fun _ => rfl, fun _ => rfl, fun _ => rfl, fun _ => rfl, fun _ => rfl, trivial⟩) (fun _ _ _ _ => rfl) xe_below (EE.out.trans (ext_drew _)) ?ops41 ?end41
     case ops41 =>
       refine ⟨?_, ?_, ?_, ?_, ?_, ?_, ?_, ?_, ?_, ?_, trivial⟩
       · refine er_q ?vn32 ?hn32 ?kn32 ?gn32 ?_
         case hn32 => exact rfl
         case vn32 => exact (fun R => .int .i64 v)
         case kn32 => exact (fun R => rfl)
         case gn32 => exact gd_none rfl
         intro R s w' hT hs hw ha
         go_simp
       · refine er_q ?vn33 ?hn33 ?kn33 ?gn33 ?_
         case hn33 => exact rfl
         case vn33 => exact (fun R => .agg V)
         case kn33 => exact (fun R => rfl)
         case gn33 => exact gd_none rfl
         intro R s w' hT hs hw ha
         go_simp
         exact k4.out w'
       · refine er_q ?vn34 ?hn34 ?kn34 ?gn34 ?_
         case hn34 => exact rfl
         case vn34 => exact (fun R => .agg B)
         case kn34 => exact (fun R => rfl)
         case gn34 => exact gd_none rfl
         intro R s w' hT hs hw ha
         have L := ld_all (P4.sameE hw (fun h => h) (by simp)) uWide rfl iWide sB
         generalize hA : putE _ _ _ _ _ _ _ = AA
         refine q_load rfl ?_ L
         subst hA
         kernel_rfl
       · refine er_q ?vn35 ?hn35 ?kn35 ?gn35 ?_
         case hn35 => exact rfl
         case vn35 => exact (fun R => .tuple #[.agg D, .bool o1])
         case kn35 => exact (fun R => rfl)
         case gn35 => exact gd_none rfl
         intro R s w' hT hs hw ha
         go_simp
         exact k5.out w'
       · refine er_q ?vn36 ?hn36 ?kn36 ?gn36 ?_
         case hn36 => exact rfl
         case vn36 => exact (fun R => .tuple #[.agg D, .bool o1])
         case kn36 => exact (fun R => rfl)
         case gn36 => exact gd_none rfl
         intro R s w' hT hs hw ha
         go_simp
       · refine er_q ?vn37 ?hn37 ?kn37 ?gn37 ?_
         case hn37 => exact rfl
         case vn37 => exact (fun R => .agg D)
         case kn37 => exact (fun R => rfl)
         case gn37 => exact gd_none rfl
         intro R s w' hT hs hw ha
         go_simp
       · refine er_q ?vn38 ?hn38 ?kn38 ?gn38 ?_
         case hn38 => exact rfl
         case vn38 => exact (fun R => .bool o1)
         case kn38 => exact (fun R => rfl)
         case gn38 => exact gd_none rfl
         intro R s w' hT hs hw ha
         go_simp
       · refine er_al ?zn39 ?hn39 ?kn39 ?gn39 ?_
         case zn39 => exact (.cells z5 25 (0, 0))
         case hn39 => exact rfl
         case kn39 => exact rfl
         case gn39 => exact gd_none rfl
         intro ρ w'
         go_simp
         exact ⟨rfl, rfl⟩
       · refine er_st (j := 7) (Ty := ?Tn40) (p := ?pn40) (x := ?xn40) ?fn40 ?zn40 ?vn40 ?hn40 ?on40 ?kn40 ?ln40 ?gn40 ?en40 ?_
         case hn40 => exact rfl
         case on40 => exact rfl
         case fn40 => exact (fun R => (.cells D 25 (0, 0)))
         case zn40 => exact (.cells z5 25 (0, 0))
         case vn40 => exact (fun R => .agg D)
         case kn40 => exact (fun R => rfl)
         case ln40 => exact rfl
         case gn40 => exact gd_none rfl
         case en40 =>
           intro R
           kernel_rfl
         intro R s ρ w g hT hs hp hx hg hz
         exact ⟨store_row rfl hp hx hz iWide (sD) (oD), fun w1 hF => ext_filled hT hF (Nat.le_trans EE.out.size hg)⟩
       · refine er_q ?vn41 ?hn41 ?kn41 ?gn41 ?_
         case hn41 => exact rfl
         case vn41 => exact (fun R => .bool o1)
         case kn41 => exact (fun R => rfl)
         case gn41 => exact gd_none rfl
         intro R s w' hT hs hw ha
         go_simp
     case end41 =>
      intro s R G w42 hI
      have hS := hI.same
      have hTT := hI.holds
      have hz0 := EE.out.size
      have P4 := P4.sameE hS (fun h => h) (by simp)
      have P8 := P8.sameE hS (fun h => h) (by simp)
      have P10 := P10.sameE hS (fun h => h) (by simp)
      have P11 := P11.sameE hS (fun h => h) (by simp)
      have P12 : Blk w42 (G 7) 25 D := (hI.fulls 8 (List.mem_range.2 (show 8 < 10 by decide)) 7 rfl).2.2
      have hmP12 := (hI.made 7 (List.mem_range.2 (show 7 < 10 by decide)) rfl).1
      have P12_lo : W.heap.size ≤ G 7 := Nat.le_trans hz0 hmP12
      have ngP4_12 : g0 ≠ G 7 := by omega
      have ngP8_12 : g0 + 1 ≠ G 7 := by omega
      have ngP10_12 : g10 ≠ G 7 := by omega
      have ngP11_12 : g11 ≠ G 7 := by omega
      have EE := hide (show Ext _ _ from hTT)
      clear hS hz0 hTT hI
      generalize hF : putE _ _ _ _ _ _ _ = FF
      have hF2 : FF = { tmps := #[.agg B, .int .i64 v, .int .i64 ep, .int .u64 (dt : Int), .pointer (some ⟨g0, 0, none⟩), undef, undef, undef, .pointer (some ⟨g0 + 1, 0, none⟩), .bool false, .pointer (some ⟨g10, 0, none⟩), .pointer (some ⟨g11, 0, none⟩), .pointer (some ⟨G 7, 0, none⟩), .bool o1, undef, undef, undef, undef, undef, .agg (#[.int .u64 0, .int .u64 4, .int .u64 0, .int .u64 0]), .agg limW, .agg B, .pointer (some ⟨g11, 0, none⟩), .agg B, .bool true, .bool false, .bool false, .agg S, .agg limW, .int .i64 r, .bool false, .bool false, .bool false, .int .i64 ep, .bool true, .bool false, .bool false, .bool false, .int .u64 (dt : Int), .bool false, .bool false, undef, .tuple #[.agg D, .bool o1], .int .i64 v, .agg V, .agg B, .tuple #[.agg D, .bool o1], .agg D, .bool o1, undef, undef, undef, undef, undef, undef, undef, undef, undef, undef, undef, undef, undef, undef, undef, undef, undef, undef, undef, undef, undef, undef, undef, undef, undef, undef, undef, undef, undef, undef, undef, undef], defers := [] } := by subst hF; kernel_rfl
      clear hF
      subst hF2
      generalize G 7 = g12 at *
      go_upto_region 7 with fail
      have P4_lt := P4.lt
      have P8_lt := P8.lt
      have P10_lt := P10.lt
      have P11_lt := P11.lt
      have P12_lt := P12.lt
      refine wp_ev [.q, .q, .q, .q, .q, .q, .q, .al, .st 7, .q] [0, 0, 0, 0, 0, 0, 0, 0, 0, 0] (fun R => [.agg D, .int .i64 ep, .agg Ep, .tuple #[.agg Lo, .bool o2], .tuple #[.agg Lo, .bool o2], .agg Lo, .bool o2, undef, undef, .bool o2]) (fun _ => (.cells z5 25 (0, 0))) (fun R _ => (.cells Lo 25 (0, 0))) (fun _ => 0) (XE W) (fun _ => False) (by kernel_rfl) (by kernel_rfl) (by kernel_rfl) (by kernel_rfl) rfl (fun _ => rfl) (fun _ h => h.elim) (fun _ _ h => h) (by simp) (by simp) (fun R R' => ⟨fun _ => rfl, fun _ => rfl, fun _ => rfl, fun _ => rfl, fun _ => rfl, fun _ => rfl, fun _ => rfl, fun _ => rfl, fun _ => rfl, fun _ => rfl, trivial⟩) (fun _ _ _ _ => rfl) xe_below (EE.out.trans (ext_drew _)) ?ops52 ?end52
      case ops52 =>
        refine ⟨?_, ?_, ?_, ?_, ?_, ?_, ?_, ?_, ?_, ?_, trivial⟩
        · refine er_q ?vn43 ?hn43 ?kn43 ?gn43 ?_
          case hn43 => exact rfl
          case vn43 => exact (fun R => .agg D)
          case kn43 => exact (fun R => rfl)
          case gn43 => exact gd_none rfl
          intro R s w' hT hs hw ha
          have L := ld_all (P12.sameE hw (fun h => h) (by simp)) uWide rfl iWide sD
          generalize hA : putE _ _ _ _ _ _ _ = AA
          refine q_load rfl ?_ L
          subst hA
          kernel_rfl
        · refine er_q ?vn44 ?hn44 ?kn44 ?gn44 ?_
          case hn44 => exact rfl
          case vn44 => exact (fun R => .int .i64 ep)
          case kn44 => exact (fun R => rfl)
          case gn44 => exact gd_none rfl
          intro R s w' hT hs hw ha
          go_simp
        · refine er_q ?vn45 ?hn45 ?kn45 ?gn45 ?_
          case hn45 => exact rfl
          case vn45 => exact (fun R => .agg Ep)
          case kn45 => exact (fun R => rfl)
          case gn45 => exact gd_none rfl
          intro R s w' hT hs hw ha
          go_simp
          exact k6.out w'
        · refine er_q ?vn46 ?hn46 ?kn46 ?gn46 ?_
          case hn46 => exact rfl
          case vn46 => exact (fun R => .tuple #[.agg Lo, .bool o2])
          case kn46 => exact (fun R => rfl)
          case gn46 => exact gd_none rfl
          intro R s w' hT hs hw ha
          go_simp
          exact k7.out w'
        · refine er_q ?vn47 ?hn47 ?kn47 ?gn47 ?_
          case hn47 => exact rfl
          case vn47 => exact (fun R => .tuple #[.agg Lo, .bool o2])
          case kn47 => exact (fun R => rfl)
          case gn47 => exact gd_none rfl
          intro R s w' hT hs hw ha
          go_simp
        · refine er_q ?vn48 ?hn48 ?kn48 ?gn48 ?_
          case hn48 => exact rfl
          case vn48 => exact (fun R => .agg Lo)
          case kn48 => exact (fun R => rfl)
          case gn48 => exact gd_none rfl
          intro R s w' hT hs hw ha
          go_simp
        · refine er_q ?vn49 ?hn49 ?kn49 ?gn49 ?_
          case hn49 => exact rfl
          case vn49 => exact (fun R => .bool o2)
          case kn49 => exact (fun R => rfl)
          case gn49 => exact gd_none rfl
          intro R s w' hT hs hw ha
          go_simp
        · refine er_al ?zn50 ?hn50 ?kn50 ?gn50 ?_
          case zn50 => exact (.cells z5 25 (0, 0))
          case hn50 => exact rfl
          case kn50 => exact rfl
          case gn50 => exact gd_none rfl
          intro ρ w'
          go_simp
          exact ⟨rfl, rfl⟩
        · refine er_st (j := 7) (Ty := ?Tn51) (p := ?pn51) (x := ?xn51) ?fn51 ?zn51 ?vn51 ?hn51 ?on51 ?kn51 ?ln51 ?gn51 ?en51 ?_
          case hn51 => exact rfl
          case on51 => exact rfl
          case fn51 => exact (fun R => (.cells Lo 25 (0, 0)))
          case zn51 => exact (.cells z5 25 (0, 0))
          case vn51 => exact (fun R => .agg Lo)
          case kn51 => exact (fun R => rfl)
          case ln51 => exact rfl
          case gn51 => exact gd_none rfl
          case en51 =>
            intro R
            kernel_rfl
          intro R s ρ w g hT hs hp hx hg hz
          exact ⟨store_row rfl hp hx hz iWide (sLo) (oLo), fun w1 hF => ext_filled hT hF (Nat.le_trans EE.out.size hg)⟩
        · refine er_q ?vn52 ?hn52 ?kn52 ?gn52 ?_
          case hn52 => exact rfl
          case vn52 => exact (fun R => .bool o2)
          case kn52 => exact (fun R => rfl)
          case gn52 => exact gd_none rfl
          intro R s w' hT hs hw ha
          go_simp
      case end52 =>
       intro s R G w53 hI
       have hS := hI.same
       have hTT := hI.holds
       have hz0 := EE.out.size
       have P4 := P4.sameE hS (fun h => h) (by simp)
       have P8 := P8.sameE hS (fun h => h) (by simp)
       have P10 := P10.sameE hS (fun h => h) (by simp)
       have P11 := P11.sameE hS (fun h => h) (by simp)
       have P12 := P12.sameE hS (fun h => h) (by simp)
       have P14 : Blk w53 (G 7) 25 Lo := (hI.fulls 8 (List.mem_range.2 (show 8 < 10 by decide)) 7 rfl).2.2
       have hmP14 := (hI.made 7 (List.mem_range.2 (show 7 < 10 by decide)) rfl).1
       have P14_lo : W.heap.size ≤ G 7 := Nat.le_trans hz0 hmP14
       have ngP4_14 : g0 ≠ G 7 := by omega
       have ngP8_14 : g0 + 1 ≠ G 7 := by omega
       have ngP10_14 : g10 ≠ G 7 := by omega
       have ngP11_14 : g11 ≠ G 7 := by omega
       have ngP12_14 : g12 ≠ G 7 := by omega
       have EE := hide (show Ext _ _ from hTT)
       clear hS hz0 hTT hI
       generalize hF : putE _ _ _ _ _ _ _ = FF
       have hF2 : FF = { tmps := #[.agg B, .int .i64 v, .int .i64 ep, .int .u64 (dt : Int), .pointer (some ⟨g0, 0, none⟩), undef, undef, undef, .pointer (some ⟨g0 + 1, 0, none⟩), .bool false, .pointer (some ⟨g10, 0, none⟩), .pointer (some ⟨g11, 0, none⟩), .pointer (some ⟨g12, 0, none⟩), .bool o1, .pointer (some ⟨G 7, 0, none⟩), .bool o2, undef, undef, undef, .agg (#[.int .u64 0, .int .u64 4, .int .u64 0, .int .u64 0]), .agg limW, .agg B, .pointer (some ⟨g11, 0, none⟩), .agg B, .bool true, .bool false, .bool false, .agg S, .agg limW, .int .i64 r, .bool false, .bool false, .bool false, .int .i64 ep, .bool true, .bool false, .bool false, .bool false, .int .u64 (dt : Int), .bool false, .bool false, undef, .tuple #[.agg D, .bool o1], .int .i64 v, .agg V, .agg B, .tuple #[.agg D, .bool o1], .agg D, .bool o1, .tuple #[.agg Lo, .bool o2], .agg D, .int .i64 ep, .agg Ep, .tuple #[.agg Lo, .bool o2], .agg Lo, .bool o2, undef, undef, undef, undef, undef, undef, undef, undef, undef, undef, undef, undef, undef, undef, undef, undef, undef, undef, undef, undef, undef, undef, undef, undef, undef], defers := [] } := by subst hF; kernel_rfl
       clear hF
       subst hF2
       generalize G 7 = g14 at *
       go_upto_region 8 with fail
       have P4_lt := P4.lt
       have P8_lt := P8.lt
       have P10_lt := P10.lt
       have P11_lt := P11.lt
       have P12_lt := P12.lt
       have P14_lt := P14.lt
       refine wp_ev [.q, .q, .q, .q, .q, .q, .q, .al, .st 7, .q] [0, 0, 0, 0, 0, 0, 0, 0, 0, 0] (fun R => [.agg D, .int .i64 ep, .agg Ep, .tuple #[.agg Hi, .bool o3], .tuple #[.agg Hi, .bool o3], .agg Hi, .bool o3, undef, undef, .bool o3]) (fun _ => (.cells z5 25 (0, 0))) (fun R _ => (.cells Hi 25 (0, 0))) (fun _ => 0) (XE W) (fun _ => False) (by kernel_rfl) (by kernel_rfl) (by kernel_rfl) (by kernel_rfl) rfl (fun _ => rfl) (fun _ h => h.elim) (fun _ _ h => h) (by simp) (by simp) (fun R R' => ⟨fun _ => rfl, fun _ => rfl, fun _ => rfl, fun _ => rfl, fun _ => rfl, fun _ => rfl, fun _ => rfl, fun _ => rfl, fun _ => rfl, fun _ => rfl, trivial⟩) (fun _ _ _ _ => rfl) xe_below (EE.out.trans (ext_drew _)) ?ops63 ?end63
       case ops63 =>
         refine ⟨?_, ?_, ?_, ?_, ?_, ?_, ?_, ?_, ?_, ?_, trivial⟩
         · refine er_q ?vn54 ?hn54 ?kn54 ?gn54 ?_
           case hn54 => exact rfl
           case vn54 => exact (fun R => .agg D)
           case kn54 => exact (fun R => rfl)
           case gn54 => exact gd_none rfl
           intro R s w' hT hs hw ha
           have L := ld_all (P12.sameE hw (fun h => h) (by simp)) uWide rfl iWide sD
           generalize hA : putE _ _ _ _ _ _ _ = AA
           refine q_load rfl ?_ L
           subst hA
           kernel_rfl
         · refine er_q ?vn55 ?hn55 ?kn55 ?gn55 ?_
           case hn55 => exact rfl
           case vn55 => exact (fun R => .int .i64 ep)
           case kn55 => exact (fun R => rfl)
           case gn55 => exact gd_none rfl
           intro R s w' hT hs hw ha
           go_simp
         · refine er_q ?vn56 ?hn56 ?kn56 ?gn56 ?_
           case hn56 => exact rfl
           case vn56 => exact (fun R => .agg Ep)
           case kn56 => exact (fun R => rfl)
           case gn56 => exact gd_none rfl
           intro R s w' hT hs hw ha
           go_simp
           exact k6.out w'
         · refine er_q ?vn57 ?hn57 ?kn57 ?gn57 ?_
           case hn57 => exact rfl
           case vn57 => exact (fun R => .tuple #[.agg Hi, .bool o3])
           case kn57 => exact (fun R => rfl)
           case gn57 => exact gd_none rfl
           intro R s w' hT hs hw ha
           go_simp
           exact k8.out w'
         · refine er_q ?vn58 ?hn58 ?kn58 ?gn58 ?_
           case hn58 => exact rfl
           case vn58 => exact (fun R => .tuple #[.agg Hi, .bool o3])
           case kn58 => exact (fun R => rfl)
           case gn58 => exact gd_none rfl
           intro R s w' hT hs hw ha
           go_simp
         · refine er_q ?vn59 ?hn59 ?kn59 ?gn59 ?_
           case hn59 => exact rfl
           case vn59 => exact (fun R => .agg Hi)
           case kn59 => exact (fun R => rfl)
           case gn59 => exact gd_none rfl
           intro R s w' hT hs hw ha
           go_simp
         · refine er_q ?vn60 ?hn60 ?kn60 ?gn60 ?_
           case hn60 => exact rfl
           case vn60 => exact (fun R => .bool o3)
           case kn60 => exact (fun R => rfl)
           case gn60 => exact gd_none rfl
           intro R s w' hT hs hw ha
           go_simp
         · refine er_al ?zn61 ?hn61 ?kn61 ?gn61 ?_
           case zn61 => exact (.cells z5 25 (0, 0))
           case hn61 => exact rfl
           case kn61 => exact rfl
           case gn61 => exact gd_none rfl
           intro ρ w'
           go_simp
           exact ⟨rfl, rfl⟩
         · refine er_st (j := 7) (Ty := ?Tn62) (p := ?pn62) (x := ?xn62) ?fn62 ?zn62 ?vn62 ?hn62 ?on62 ?kn62 ?ln62 ?gn62 ?en62 ?_
           case hn62 => exact rfl
           case on62 => exact rfl
           case fn62 => exact (fun R => (.cells Hi 25 (0, 0)))
           case zn62 => exact (.cells z5 25 (0, 0))
           case vn62 => exact (fun R => .agg Hi)
           case kn62 => exact (fun R => rfl)
           case ln62 => exact rfl
           case gn62 => exact gd_none rfl
           case en62 =>
             intro R
             kernel_rfl
           intro R s ρ w g hT hs hp hx hg hz
           exact ⟨store_row rfl hp hx hz iWide (sHi) (oHi), fun w1 hF => ext_filled hT hF (Nat.le_trans EE.out.size hg)⟩
         · refine er_q ?vn63 ?hn63 ?kn63 ?gn63 ?_
           case hn63 => exact rfl
           case vn63 => exact (fun R => .bool o3)
           case kn63 => exact (fun R => rfl)
           case gn63 => exact gd_none rfl
           intro R s w' hT hs hw ha
           go_simp
       case end63 =>
        intro s R G w64 hI
        have hS := hI.same
        have hTT := hI.holds
        have hz0 := EE.out.size
        have P4 := P4.sameE hS (fun h => h) (by simp)
        have P8 := P8.sameE hS (fun h => h) (by simp)
        have P10 := P10.sameE hS (fun h => h) (by simp)
        have P11 := P11.sameE hS (fun h => h) (by simp)
        have P12 := P12.sameE hS (fun h => h) (by simp)
        have P14 := P14.sameE hS (fun h => h) (by simp)
        have P16 : Blk w64 (G 7) 25 Hi := (hI.fulls 8 (List.mem_range.2 (show 8 < 10 by decide)) 7 rfl).2.2
        have hmP16 := (hI.made 7 (List.mem_range.2 (show 7 < 10 by decide)) rfl).1
        have P16_lo : W.heap.size ≤ G 7 := Nat.le_trans hz0 hmP16
        have ngP4_16 : g0 ≠ G 7 := by omega
        have ngP8_16 : g0 + 1 ≠ G 7 := by omega
        have ngP10_16 : g10 ≠ G 7 := by omega
        have ngP11_16 : g11 ≠ G 7 := by omega
        have ngP12_16 : g12 ≠ G 7 := by omega
        have ngP14_16 : g14 ≠ G 7 := by omega
        have EE := hide (show Ext _ _ from hTT)
        clear hS hz0 hTT hI
        generalize hF : putE _ _ _ _ _ _ _ = FF
        have hF2 : FF = { tmps := #[.agg B, .int .i64 v, .int .i64 ep, .int .u64 (dt : Int), .pointer (some ⟨g0, 0, none⟩), undef, undef, undef, .pointer (some ⟨g0 + 1, 0, none⟩), .bool false, .pointer (some ⟨g10, 0, none⟩), .pointer (some ⟨g11, 0, none⟩), .pointer (some ⟨g12, 0, none⟩), .bool o1, .pointer (some ⟨g14, 0, none⟩), .bool o2, .pointer (some ⟨G 7, 0, none⟩), .bool o3, undef, .agg (#[.int .u64 0, .int .u64 4, .int .u64 0, .int .u64 0]), .agg limW, .agg B, .pointer (some ⟨g11, 0, none⟩), .agg B, .bool true, .bool false, .bool false, .agg S, .agg limW, .int .i64 r, .bool false, .bool false, .bool false, .int .i64 ep, .bool true, .bool false, .bool false, .bool false, .int .u64 (dt : Int), .bool false, .bool false, undef, .tuple #[.agg D, .bool o1], .int .i64 v, .agg V, .agg B, .tuple #[.agg D, .bool o1], .agg D, .bool o1, .tuple #[.agg Lo, .bool o2], .agg D, .int .i64 ep, .agg Ep, .tuple #[.agg Lo, .bool o2], .agg Lo, .bool o2, .tuple #[.agg Hi, .bool o3], .agg D, .int .i64 ep, .agg Ep, .tuple #[.agg Hi, .bool o3], .agg Hi, .bool o3, undef, undef, undef, undef, undef, undef, undef, undef, undef, undef, undef, undef, undef, undef, undef, undef, undef, undef], defers := [] } := by subst hF; kernel_rfl
        clear hF
        subst hF2
        generalize G 7 = g16 at *
        go_upto_region 9 with fail
        have P4_lt := P4.lt
        have P8_lt := P8.lt
        have P10_lt := P10.lt
        have P11_lt := P11.lt
        have P12_lt := P12.lt
        have P14_lt := P14.lt
        have P16_lt := P16.lt
        refine wp_evs [.q, .al, .st 1] [0, 0, 0] (fun R => [.agg z21, undef, undef]) (fun _ => (.cells z21 42 (0, 0))) (fun R _ => (.cells z21 42 (0, 0))) (fun _ => 0) (XE W) (fun _ => False) (by kernel_rfl) (by kernel_rfl) (by kernel_rfl) rfl (fun _ => rfl) (fun _ h => h.elim) (fun _ _ h => h) (by simp) (by simp) (fun R R' => ⟨fun _ => rfl, fun _ => rfl, fun _ => rfl, trivial⟩) (fun _ _ _ _ => rfl) xe_below EE.out ?ops67 ?end67
        case ops67 =>
          refine ⟨?_, ?_, ?_, trivial⟩
          · refine er_q ?vn65 ?hn65 ?kn65 ?gn65 ?_
            case hn65 => exact rfl
            case vn65 => exact (fun R => .agg z21)
            case kn65 => exact (fun R => rfl)
            case gn65 => exact gd_none rfl
            intro R s w' hT hs hw ha
            unfold z21
            go_simp
          · refine er_al ?zn66 ?hn66 ?kn66 ?gn66 ?_
            case zn66 => exact (.cells z21 42 (0, 0))
            case hn66 => exact rfl
            case kn66 => exact rfl
            case gn66 => exact gd_none rfl
            intro ρ w'
            go_simp
            exact ⟨rfl, rfl⟩
          · refine er_st (j := 1) (Ty := ?Tn67) (p := ?pn67) (x := ?xn67) ?fn67 ?zn67 ?vn67 ?hn67 ?on67 ?kn67 ?ln67 ?gn67 ?en67 ?_
            case hn67 => exact rfl
            case on67 => exact rfl
            case fn67 => exact (fun R => (.cells z21 42 (0, 0)))
            case zn67 => exact (.cells z21 42 (0, 0))
            case vn67 => exact (fun R => .agg z21)
            case kn67 => exact (fun R => rfl)
            case ln67 => exact rfl
            case gn67 => exact gd_none rfl
            case en67 =>
              intro R
              kernel_rfl
            intro R s ρ w g hT hs hp hx hg hz
            exact ⟨store_row rfl hp hx hz iCone (rfl) (z21_one), fun w1 hF => ext_filled hT hF (Nat.le_trans EE.out.size hg)⟩
        case end67 =>
         intro s R G w68 hI
         have hS := hI.same
         have hTT := hI.holds
         have hz0 := EE.out.size
         have P4 := P4.sameE hS (fun h => h) (by simp)
         have P8 := P8.sameE hS (fun h => h) (by simp)
         have P10 := P10.sameE hS (fun h => h) (by simp)
         have P11 := P11.sameE hS (fun h => h) (by simp)
         have P12 := P12.sameE hS (fun h => h) (by simp)
         have P14 := P14.sameE hS (fun h => h) (by simp)
         have P16 := P16.sameE hS (fun h => h) (by simp)
         have P18 : Blk w68 (G 1) 42 z21 := (hI.fulls 2 (List.mem_range.2 (show 2 < 3 by decide)) 1 rfl).2.2
         have hmP18 := (hI.made 1 (List.mem_range.2 (show 1 < 3 by decide)) rfl).1
         have P18_lo : W.heap.size ≤ G 1 := Nat.le_trans hz0 hmP18
         have ngP4_18 : g0 ≠ G 1 := by omega
         have ngP8_18 : g0 + 1 ≠ G 1 := by omega
         have ngP10_18 : g10 ≠ G 1 := by omega
         have ngP11_18 : g11 ≠ G 1 := by omega
         have ngP12_18 : g12 ≠ G 1 := by omega
         have ngP14_18 : g14 ≠ G 1 := by omega
         have ngP16_18 : g16 ≠ G 1 := by omega
         have EE := hide (show Ext _ _ from hTT)
         clear hS hz0 hTT hI
         generalize hF : putE _ _ _ _ _ _ _ = FF
         have hF2 : FF = { tmps := #[.agg B, .int .i64 v, .int .i64 ep, .int .u64 (dt : Int), .pointer (some ⟨g0, 0, none⟩), undef, undef, undef, .pointer (some ⟨g0 + 1, 0, none⟩), .bool false, .pointer (some ⟨g10, 0, none⟩), .pointer (some ⟨g11, 0, none⟩), .pointer (some ⟨g12, 0, none⟩), .bool o1, .pointer (some ⟨g14, 0, none⟩), .bool o2, .pointer (some ⟨g16, 0, none⟩), .bool o3, .pointer (some ⟨G 1, 0, none⟩), .agg (#[.int .u64 0, .int .u64 4, .int .u64 0, .int .u64 0]), .agg limW, .agg B, .pointer (some ⟨g11, 0, none⟩), .agg B, .bool true, .bool false, .bool false, .agg S, .agg limW, .int .i64 r, .bool false, .bool false, .bool false, .int .i64 ep, .bool true, .bool false, .bool false, .bool false, .int .u64 (dt : Int), .bool false, .bool false, undef, .tuple #[.agg D, .bool o1], .int .i64 v, .agg V, .agg B, .tuple #[.agg D, .bool o1], .agg D, .bool o1, .tuple #[.agg Lo, .bool o2], .agg D, .int .i64 ep, .agg Ep, .tuple #[.agg Lo, .bool o2], .agg Lo, .bool o2, .tuple #[.agg Hi, .bool o3], .agg D, .int .i64 ep, .agg Ep, .tuple #[.agg Hi, .bool o3], .agg Hi, .bool o3, .agg z21, undef, undef, undef, undef, undef, undef, undef, undef, undef, undef, undef, undef, undef, undef, undef, undef, undef], defers := [] } := by subst hF; kernel_rfl
         clear hF
         subst hF2
         generalize G 1 = g18 at *
         go_upto_region 10 with fail
         have P4_lt := P4.lt
         have P8_lt := P8.lt
         have P10_lt := P10.lt
         have P11_lt := P11.lt
         have P12_lt := P12.lt
         have P14_lt := P14.lt
         have P16_lt := P16.lt
         have P18_lt := P18.lt
         refine wp_ev [.q, .q, .q, .q, .q, .q, .q, .q, .so 0] [0, 0, 0, 0, 0, 0, 0, 0, 0] (fun R => [.agg Lo, .int .u64 (dt : Int), .agg U, .tuple #[.agg L, .bool p1], .tuple #[.agg L, .bool p1], .agg L, .bool p1, .pointer (some ⟨g18, 1, none⟩), undef]) (fun _ => (.cells #[] 0 (0, 0))) (fun R _ => (.cells (coneC false L zR) 42 (0, 0))) (fun _ => g18) (XE W) (fun _ => False) (by kernel_rfl) (by kernel_rfl) (by kernel_rfl) (by kernel_rfl) rfl (fun _ => rfl) (fun _ h => h.elim) (fun _ _ h => h) (by intro c hc; simp at hc; (try subst hc); (try simp only); omega) (by intro c c' h1 h2 _; simp at h1 h2; omega) (fun R R' => ⟨fun _ => rfl, fun _ => rfl, fun _ => rfl, fun _ => rfl, fun _ => rfl, fun _ => rfl, fun _ => rfl, fun _ => rfl, fun _ => rfl, trivial⟩) (fun _ _ _ _ => rfl) xe_below (EE.out.trans (ext_drew _)) ?ops77 ?end77
         case ops77 =>
           refine ⟨?_, ?_, ?_, ?_, ?_, ?_, ?_, ?_, ?_, trivial⟩
           · refine er_q ?vn69 ?hn69 ?kn69 ?gn69 ?_
             case hn69 => exact rfl
             case vn69 => exact (fun R => .agg Lo)
             case kn69 => exact (fun R => rfl)
             case gn69 => exact gd_none rfl
             intro R s w' hT hs hw ha
             have L := ld_all (P14.sameE hw (fun h => h) (by intro c hc; simp at hc; (try subst hc); (try simp only); omega)) uWide rfl iWide sLo
             generalize hA : putE _ _ _ _ _ _ _ = AA
             refine q_load rfl ?_ L
             subst hA
             kernel_rfl
           · refine er_q ?vn70 ?hn70 ?kn70 ?gn70 ?_
             case hn70 => exact rfl
             case vn70 => exact (fun R => .int .u64 (dt : Int))
             case kn70 => exact (fun R => rfl)
             case gn70 => exact gd_none rfl
             intro R s w' hT hs hw ha
             go_simp
           · refine er_q ?vn71 ?hn71 ?kn71 ?gn71 ?_
             case hn71 => exact rfl
             case vn71 => exact (fun R => .agg U)
             case kn71 => exact (fun R => rfl)
             case gn71 => exact gd_none rfl
             intro R s w' hT hs hw ha
             go_simp
             exact k9.out w'
           · refine er_q ?vn72 ?hn72 ?kn72 ?gn72 ?_
             case hn72 => exact rfl
             case vn72 => exact (fun R => .tuple #[.agg L, .bool p1])
             case kn72 => exact (fun R => rfl)
             case gn72 => exact gd_none rfl
             intro R s w' hT hs hw ha
             go_simp
             exact k10.out w'
           · refine er_q ?vn73 ?hn73 ?kn73 ?gn73 ?_
             case hn73 => exact rfl
             case vn73 => exact (fun R => .tuple #[.agg L, .bool p1])
             case kn73 => exact (fun R => rfl)
             case gn73 => exact gd_none rfl
             intro R s w' hT hs hw ha
             go_simp
           · refine er_q ?vn74 ?hn74 ?kn74 ?gn74 ?_
             case hn74 => exact rfl
             case vn74 => exact (fun R => .agg L)
             case kn74 => exact (fun R => rfl)
             case gn74 => exact gd_none rfl
             intro R s w' hT hs hw ha
             go_simp
           · refine er_q ?vn75 ?hn75 ?kn75 ?gn75 ?_
             case hn75 => exact rfl
             case vn75 => exact (fun R => .bool p1)
             case kn75 => exact (fun R => rfl)
             case gn75 => exact gd_none rfl
             intro R s w' hT hs hw ha
             go_simp
           · refine er_q ?vn76 ?hn76 ?kn76 ?gn76 ?_
             case hn76 => exact rfl
             case vn76 => exact (fun R => .pointer (some ⟨g18, 1, none⟩))
             case kn76 => exact (fun R => rfl)
             case gn76 => exact gd_none rfl
             intro R s w' hT hs hw ha
             go_simp
           · refine er_so (c := 0) (Ty := ?Tn77) (p := ?pn77) (x := ?xn77) g18 ?fn77 ?un77 ?vn77 ?hn77 ?on77 ?kn77 ?ln77 ?gn77 ?dn77 ?en77 ?_
             case hn77 => exact rfl
             case on77 => exact rfl
             case fn77 => exact (fun R => (.cells (coneC false L zR) 42 (0, 0)))
             case un77 => exact (fun R => .pointer (some ⟨g18, 1, none⟩))
             case vn77 => exact (fun R => .agg L)
             case kn77 => exact (fun R => rfl)
             case ln77 => exact rfl
             case gn77 => exact gd_none rfl
             case dn77 =>
               intro R
               kernel_rfl
             case en77 =>
               intro R
               kernel_rfl
             intro R s ρ w hT hs hp hx hz
             refine ⟨store_known (g := g18) rfl hp hx (hz.trans P18) (cone_store_lo (show Blk w g18 _ (coneC false zR zR) from hz.trans P18) rfl rfl sL oL), fun w1 hF => ext_filled hT hF P18_lo⟩
         case end77 =>
          intro s R G w78 hI
          have hS := hI.same
          have hTT := hI.holds
          have hz0 := EE.out.size
          have P4 := P4.sameE hS (fun h => h) (by intro c hc; simp at hc; (try subst hc); (try simp only); omega)
          have P8 := P8.sameE hS (fun h => h) (by intro c hc; simp at hc; (try subst hc); (try simp only); omega)
          have P10 := P10.sameE hS (fun h => h) (by intro c hc; simp at hc; (try subst hc); (try simp only); omega)
          have P11 := P11.sameE hS (fun h => h) (by intro c hc; simp at hc; (try subst hc); (try simp only); omega)
          have P12 := P12.sameE hS (fun h => h) (by intro c hc; simp at hc; (try subst hc); (try simp only); omega)
          have P14 := P14.sameE hS (fun h => h) (by intro c hc; simp at hc; (try subst hc); (try simp only); omega)
          have P16 := P16.sameE hS (fun h => h) (by intro c hc; simp at hc; (try subst hc); (try simp only); omega)
          have P18 : Blk w78 g18 42 (coneC false L zR) := hI.olds' 8 (List.mem_range.2 (show 8 < 9 by decide)) 0 rfl
          have EE := hide (show Ext _ _ from hTT)
          clear hS hz0 hTT hI
          generalize hF : putE _ _ _ _ _ _ _ = FF
          have hF2 : FF = { tmps := #[.agg B, .int .i64 v, .int .i64 ep, .int .u64 (dt : Int), .pointer (some ⟨g0, 0, none⟩), undef, undef, undef, .pointer (some ⟨g0 + 1, 0, none⟩), .bool false, .pointer (some ⟨g10, 0, none⟩), .pointer (some ⟨g11, 0, none⟩), .pointer (some ⟨g12, 0, none⟩), .bool o1, .pointer (some ⟨g14, 0, none⟩), .bool o2, .pointer (some ⟨g16, 0, none⟩), .bool o3, .pointer (some ⟨g18, 0, none⟩), .agg (#[.int .u64 0, .int .u64 4, .int .u64 0, .int .u64 0]), .agg limW, .agg B, .pointer (some ⟨g11, 0, none⟩), .agg B, .bool true, .bool false, .bool false, .agg S, .agg limW, .int .i64 r, .bool false, .bool false, .bool false, .int .i64 ep, .bool true, .bool false, .bool false, .bool false, .int .u64 (dt : Int), .bool false, .bool false, undef, .tuple #[.agg D, .bool o1], .int .i64 v, .agg V, .agg B, .tuple #[.agg D, .bool o1], .agg D, .bool o1, .tuple #[.agg Lo, .bool o2], .agg D, .int .i64 ep, .agg Ep, .tuple #[.agg Lo, .bool o2], .agg Lo, .bool o2, .tuple #[.agg Hi, .bool o3], .agg D, .int .i64 ep, .agg Ep, .tuple #[.agg Hi, .bool o3], .agg Hi, .bool o3, .agg z21, .tuple #[.agg L, .bool p1], .agg Lo, .int .u64 (dt : Int), .agg U, .tuple #[.agg L, .bool p1], .agg L, .bool p1, .pointer (some ⟨g18, 1, none⟩), undef, undef, undef, undef, undef, undef, undef, undef, undef], defers := [] } := by subst hF; kernel_rfl
          clear hF
          subst hF2
          go_upto_region 11 with fail
          have P4_lt := P4.lt
          have P8_lt := P8.lt
          have P10_lt := P10.lt
          have P11_lt := P11.lt
          have P12_lt := P12.lt
          have P14_lt := P14.lt
          have P16_lt := P16.lt
          have P18_lt := P18.lt
          refine wp_ev [.q, .q, .q, .q, .q, .q, .q, .q, .so 0] [0, 0, 0, 0, 0, 0, 0, 0, 0] (fun R => [.agg Hi, .int .u64 (dt : Int), .agg U, .tuple #[.agg H, .bool p2], .tuple #[.agg H, .bool p2], .agg H, .bool p2, .pointer (some ⟨g18, 11, none⟩), undef]) (fun _ => (.cells #[] 0 (0, 0))) (fun R _ => (.cells (coneC false L H) 42 (0, 0))) (fun _ => g18) (XE W) (fun _ => False) (by kernel_rfl) (by kernel_rfl) (by kernel_rfl) (by kernel_rfl) rfl (fun _ => rfl) (fun _ h => h.elim) (fun _ _ h => h) (by intro c hc; simp at hc; (try subst hc); (try simp only); omega) (by intro c c' h1 h2 _; simp at h1 h2; omega) (fun R R' => ⟨fun _ => rfl, fun _ => rfl, fun _ => rfl, fun _ => rfl, fun _ => rfl, fun _ => rfl, fun _ => rfl, fun _ => rfl, fun _ => rfl, trivial⟩) (fun _ _ _ _ => rfl) xe_below (EE.out.trans (ext_drew _)) ?ops87 ?end87
          case ops87 =>
            refine ⟨?_, ?_, ?_, ?_, ?_, ?_, ?_, ?_, ?_, trivial⟩
            · refine er_q ?vn79 ?hn79 ?kn79 ?gn79 ?_
              case hn79 => exact rfl
              case vn79 => exact (fun R => .agg Hi)
              case kn79 => exact (fun R => rfl)
              case gn79 => exact gd_none rfl
              intro R s w' hT hs hw ha
              have L := ld_all (P16.sameE hw (fun h => h) (by intro c hc; simp at hc; (try subst hc); (try simp only); omega)) uWide rfl iWide sHi
              generalize hA : putE _ _ _ _ _ _ _ = AA
              refine q_load rfl ?_ L
              subst hA
              kernel_rfl
            · refine er_q ?vn80 ?hn80 ?kn80 ?gn80 ?_
              case hn80 => exact rfl
              case vn80 => exact (fun R => .int .u64 (dt : Int))
              case kn80 => exact (fun R => rfl)
              case gn80 => exact gd_none rfl
              intro R s w' hT hs hw ha
              go_simp
            · refine er_q ?vn81 ?hn81 ?kn81 ?gn81 ?_
              case hn81 => exact rfl
              case vn81 => exact (fun R => .agg U)
              case kn81 => exact (fun R => rfl)
              case gn81 => exact gd_none rfl
              intro R s w' hT hs hw ha
              go_simp
              exact k9.out w'
            · refine er_q ?vn82 ?hn82 ?kn82 ?gn82 ?_
              case hn82 => exact rfl
              case vn82 => exact (fun R => .tuple #[.agg H, .bool p2])
              case kn82 => exact (fun R => rfl)
              case gn82 => exact gd_none rfl
              intro R s w' hT hs hw ha
              go_simp
              exact k11.out w'
            · refine er_q ?vn83 ?hn83 ?kn83 ?gn83 ?_
              case hn83 => exact rfl
              case vn83 => exact (fun R => .tuple #[.agg H, .bool p2])
              case kn83 => exact (fun R => rfl)
              case gn83 => exact gd_none rfl
              intro R s w' hT hs hw ha
              go_simp
            · refine er_q ?vn84 ?hn84 ?kn84 ?gn84 ?_
              case hn84 => exact rfl
              case vn84 => exact (fun R => .agg H)
              case kn84 => exact (fun R => rfl)
              case gn84 => exact gd_none rfl
              intro R s w' hT hs hw ha
              go_simp
            · refine er_q ?vn85 ?hn85 ?kn85 ?gn85 ?_
              case hn85 => exact rfl
              case vn85 => exact (fun R => .bool p2)
              case kn85 => exact (fun R => rfl)
              case gn85 => exact gd_none rfl
              intro R s w' hT hs hw ha
              go_simp
            · refine er_q ?vn86 ?hn86 ?kn86 ?gn86 ?_
              case hn86 => exact rfl
              case vn86 => exact (fun R => .pointer (some ⟨g18, 11, none⟩))
              case kn86 => exact (fun R => rfl)
              case gn86 => exact gd_none rfl
              intro R s w' hT hs hw ha
              go_simp
            · refine er_so (c := 0) (Ty := ?Tn87) (p := ?pn87) (x := ?xn87) g18 ?fn87 ?un87 ?vn87 ?hn87 ?on87 ?kn87 ?ln87 ?gn87 ?dn87 ?en87 ?_
              case hn87 => exact rfl
              case on87 => exact rfl
              case fn87 => exact (fun R => (.cells (coneC false L H) 42 (0, 0)))
              case un87 => exact (fun R => .pointer (some ⟨g18, 11, none⟩))
              case vn87 => exact (fun R => .agg H)
              case kn87 => exact (fun R => rfl)
              case ln87 => exact rfl
              case gn87 => exact gd_none rfl
              case dn87 =>
                intro R
                kernel_rfl
              case en87 =>
                intro R
                kernel_rfl
              intro R s ρ w hT hs hp hx hz
              refine ⟨store_known (g := g18) rfl hp hx (hz.trans P18) (cone_store_hi (show Blk w g18 _ (coneC false L zR) from hz.trans P18) sL rfl sH oH), fun w1 hF => ext_filled hT hF P18_lo⟩
          case end87 =>
           intro s R G w88 hI
           have hS := hI.same
           have hTT := hI.holds
           have hz0 := EE.out.size
           have P4 := P4.sameE hS (fun h => h) (by intro c hc; simp at hc; (try subst hc); (try simp only); omega)
           have P8 := P8.sameE hS (fun h => h) (by intro c hc; simp at hc; (try subst hc); (try simp only); omega)
           have P10 := P10.sameE hS (fun h => h) (by intro c hc; simp at hc; (try subst hc); (try simp only); omega)
           have P11 := P11.sameE hS (fun h => h) (by intro c hc; simp at hc; (try subst hc); (try simp only); omega)
           have P12 := P12.sameE hS (fun h => h) (by intro c hc; simp at hc; (try subst hc); (try simp only); omega)
           have P14 := P14.sameE hS (fun h => h) (by intro c hc; simp at hc; (try subst hc); (try simp only); omega)
           have P16 := P16.sameE hS (fun h => h) (by intro c hc; simp at hc; (try subst hc); (try simp only); omega)
           have P18 : Blk w88 g18 42 (coneC false L H) := hI.olds' 8 (List.mem_range.2 (show 8 < 9 by decide)) 0 rfl
           have EE := hide (show Ext _ _ from hTT)
           clear hS hz0 hTT hI
           generalize hF : putE _ _ _ _ _ _ _ = FF
           have hF2 : FF = { tmps := #[.agg B, .int .i64 v, .int .i64 ep, .int .u64 (dt : Int), .pointer (some ⟨g0, 0, none⟩), undef, undef, undef, .pointer (some ⟨g0 + 1, 0, none⟩), .bool false, .pointer (some ⟨g10, 0, none⟩), .pointer (some ⟨g11, 0, none⟩), .pointer (some ⟨g12, 0, none⟩), .bool o1, .pointer (some ⟨g14, 0, none⟩), .bool o2, .pointer (some ⟨g16, 0, none⟩), .bool o3, .pointer (some ⟨g18, 0, none⟩), .agg (#[.int .u64 0, .int .u64 4, .int .u64 0, .int .u64 0]), .agg limW, .agg B, .pointer (some ⟨g11, 0, none⟩), .agg B, .bool true, .bool false, .bool false, .agg S, .agg limW, .int .i64 r, .bool false, .bool false, .bool false, .int .i64 ep, .bool true, .bool false, .bool false, .bool false, .int .u64 (dt : Int), .bool false, .bool false, undef, .tuple #[.agg D, .bool o1], .int .i64 v, .agg V, .agg B, .tuple #[.agg D, .bool o1], .agg D, .bool o1, .tuple #[.agg Lo, .bool o2], .agg D, .int .i64 ep, .agg Ep, .tuple #[.agg Lo, .bool o2], .agg Lo, .bool o2, .tuple #[.agg Hi, .bool o3], .agg D, .int .i64 ep, .agg Ep, .tuple #[.agg Hi, .bool o3], .agg Hi, .bool o3, .agg z21, .tuple #[.agg L, .bool p1], .agg Lo, .int .u64 (dt : Int), .agg U, .tuple #[.agg L, .bool p1], .agg L, .bool p1, .pointer (some ⟨g18, 1, none⟩), .tuple #[.agg H, .bool p2], .agg Hi, .int .u64 (dt : Int), .agg U, .tuple #[.agg H, .bool p2], .agg H, .bool p2, .pointer (some ⟨g18, 11, none⟩), undef], defers := [] } := by subst hF; kernel_rfl
           clear hF
           subst hF2
           go_upto_region 12 with fail
           have P4_lt := P4.lt
           have P8_lt := P8.lt
           have P10_lt := P10.lt
           have P11_lt := P11.lt
           have P12_lt := P12.lt
           have P14_lt := P14.lt
           have P16_lt := P16.lt
           have P18_lt := P18.lt
           refine wp_evs [.q, .so 0, .q] [0, 0, 0] (fun R => [.agg (coneC false L H), undef, .bool true]) (fun _ => (.cells #[] 0 (0, 0))) (fun R _ => (.cells (coneC false L H) 42 (0, 0))) (fun _ => g0 + 1) (XE W) (fun _ => False) (by kernel_rfl) (by kernel_rfl) (by kernel_rfl) rfl (fun _ => rfl) (fun _ h => h.elim) (fun _ _ h => h) (by intro c hc; simp at hc; (try subst hc); (try simp only); omega) (by intro c c' h1 h2 _; simp at h1 h2; omega) (fun R R' => ⟨fun _ => rfl, fun _ => rfl, fun _ => rfl, trivial⟩) (fun _ _ _ _ => rfl) xe_below EE.out ?ops91 ?end91
           case ops91 =>
             refine ⟨?_, ?_, ?_, trivial⟩
             · refine er_q ?vn89 ?hn89 ?kn89 ?gn89 ?_
               case hn89 => exact rfl
               case vn89 => exact (fun R => .agg (coneC false L H))
               case kn89 => exact (fun R => rfl)
               case gn89 => exact gd_none rfl
               intro R s w' hT hs hw ha
               have L := ld_all (P18.sameE hw (fun h => h) (by intro c hc; simp at hc; (try subst hc); (try simp only); omega)) uCone rfl iCone sC
               generalize hA : putE _ _ _ _ _ _ _ = AA
               refine q_load rfl ?_ L
               subst hA
               kernel_rfl
             · refine er_so (c := 0) (Ty := ?Tn90) (p := ?pn90) (x := ?xn90) (g0 + 1) ?fn90 ?un90 ?vn90 ?hn90 ?on90 ?kn90 ?ln90 ?gn90 ?dn90 ?en90 ?_
               case hn90 => exact rfl
               case on90 => exact rfl
               case fn90 => exact (fun R => (.cells (coneC false L H) 42 (0, 0)))
               case un90 => exact (fun R => .pointer (some ⟨g0 + 1, 0, none⟩))
               case vn90 => exact (fun R => .agg (coneC false L H))
               case kn90 => exact (fun R => rfl)
               case ln90 => exact rfl
               case gn90 => exact gd_none rfl
               case dn90 =>
                 intro R
                 kernel_rfl
               case en90 =>
                 intro R
                 kernel_rfl
               intro R s ρ w hT hs hp hx hz
               refine ⟨store_rowN (g := (g0 + 1)) rfl hp hx (hz.trans P8) iCone (rfl) (sC) (oC), fun w1 hF => ext_filled hT hF P8_lo⟩
             · refine er_q ?vn91 ?hn91 ?kn91 ?gn91 ?_
               case hn91 => exact rfl
               case vn91 => exact (fun R => .bool true)
               case kn91 => exact (fun R => rfl)
               case gn91 => exact gd_none rfl
               intro R s w' hT hs hw ha
               go_simp
           case end91 =>
            intro s R G w92 hI
            have hS := hI.same
            have hTT := hI.holds
            have hz0 := EE.out.size
            have P4 := P4.sameE hS (fun h => h) (by intro c hc; simp at hc; (try subst hc); (try simp only); omega)
            have P10 := P10.sameE hS (fun h => h) (by intro c hc; simp at hc; (try subst hc); (try simp only); omega)
            have P11 := P11.sameE hS (fun h => h) (by intro c hc; simp at hc; (try subst hc); (try simp only); omega)
            have P12 := P12.sameE hS (fun h => h) (by intro c hc; simp at hc; (try subst hc); (try simp only); omega)
            have P14 := P14.sameE hS (fun h => h) (by intro c hc; simp at hc; (try subst hc); (try simp only); omega)
            have P16 := P16.sameE hS (fun h => h) (by intro c hc; simp at hc; (try subst hc); (try simp only); omega)
            have P18 := P18.sameE hS (fun h => h) (by intro c hc; simp at hc; (try subst hc); (try simp only); omega)
            have P8 : Blk w92 (g0 + 1) 42 (coneC false L H) := hI.olds' 1 (List.mem_range.2 (show 1 < 3 by decide)) 0 rfl
            have EE := hide (show Ext _ _ from hTT)
            clear hS hz0 hTT hI
            generalize hF : putE _ _ _ _ _ _ _ = FF
            have hF2 : FF = { tmps := #[.agg B, .int .i64 v, .int .i64 ep, .int .u64 (dt : Int), .pointer (some ⟨g0, 0, none⟩), undef, undef, undef, .pointer (some ⟨g0 + 1, 0, none⟩), .bool true, .pointer (some ⟨g10, 0, none⟩), .pointer (some ⟨g11, 0, none⟩), .pointer (some ⟨g12, 0, none⟩), .bool o1, .pointer (some ⟨g14, 0, none⟩), .bool o2, .pointer (some ⟨g16, 0, none⟩), .bool o3, .pointer (some ⟨g18, 0, none⟩), .agg (#[.int .u64 0, .int .u64 4, .int .u64 0, .int .u64 0]), .agg limW, .agg B, .pointer (some ⟨g11, 0, none⟩), .agg B, .bool true, .bool false, .bool false, .agg S, .agg limW, .int .i64 r, .bool false, .bool false, .bool false, .int .i64 ep, .bool true, .bool false, .bool false, .bool false, .int .u64 (dt : Int), .bool false, .bool false, undef, .tuple #[.agg D, .bool o1], .int .i64 v, .agg V, .agg B, .tuple #[.agg D, .bool o1], .agg D, .bool o1, .tuple #[.agg Lo, .bool o2], .agg D, .int .i64 ep, .agg Ep, .tuple #[.agg Lo, .bool o2], .agg Lo, .bool o2, .tuple #[.agg Hi, .bool o3], .agg D, .int .i64 ep, .agg Ep, .tuple #[.agg Hi, .bool o3], .agg Hi, .bool o3, .agg z21, .tuple #[.agg L, .bool p1], .agg Lo, .int .u64 (dt : Int), .agg U, .tuple #[.agg L, .bool p1], .agg L, .bool p1, .pointer (some ⟨g18, 1, none⟩), .tuple #[.agg H, .bool p2], .agg Hi, .int .u64 (dt : Int), .agg U, .tuple #[.agg H, .bool p2], .agg H, .bool p2, .pointer (some ⟨g18, 11, none⟩), .agg (coneC false L H)], defers := [] } := by subst hF; kernel_rfl
            clear hF
            subst hF2
            go_wp2_with fail
            exact bodyPost_ret (res_row2 (p := 8) (u := 9) (ty := 42) rfl _ _ _ 42 (coneC false L H) _ rfl P8 uCone rfl (by rw [iCone, sC])) rfl ⟨by kernel_rfl, EE.out⟩
end
section
open Go Go.RowKit Go.Sort
attribute [local go_sem] qUpon eUpon putE slE
set_option maxHeartbeats 6400000 in
set_option maxRecDepth 100000 in
theorem rc_throughF1 (B S : Array Value) (v ep : Int) (dt : Nat) (r : Int) (W : World) (sB : B.size = 5) (oB : B.all (·.oneCell') = true) (sS : S.size = 5) (oS : S.all (·.oneCell') = true) (nb : Bool) (hB0 : B[0]? = some (.bool nb)) (hS : B.setIfInBounds 0 (.bool false) = S)
   (k1 : Hid (∀ w, Calls Try.prog 62 #[.agg B] w (Ret (.bool false) w))) :
   Calls Try.prog 36 #[.agg B, .int .i64 v, .int .i64 ep, .int .u64 (dt : Int)] W (Ret (.tuple #[.agg z21, .bool false]) W) := by
 have P4 := (Blk.new W 25 B).alloc (.cells z21 42)
 have P8 := Blk.new (W.alloc (.cells B 25)) 42 z21
 rw [alloc_size] at P8
 have EE := hide ((ext_alloc W (.cells B 25)).trans (ext_alloc _ (.cells z21 42)))
 obtain ⟨W1, hW1⟩ : ∃ W1, ((W.alloc (.cells B 25)).alloc (.cells z21 42)) = W1 := ⟨_, rfl⟩
 obtain ⟨g0, hg⟩ : ∃ g, W.heap.size = g := ⟨_, rfl⟩
 rw [hW1] at P4 P8 EE
 rw [hg] at P4 P8
 have P4_lo : W.heap.size ≤ g0 := by omega
 have P8_lo : W.heap.size ≤ g0 + 1 := by omega
 have HW := hide hW1
 have Hg := hide hg
 clear hW1 hg
 go_enter Try.func36, Try.ntmps36
 go_upto_region 1 with fail
 unfold z21 at HW
 rw [HW.out, Hg.out]
 clear HW Hg
 have P4_lt := P4.lt
 have P8_lt := P8.lt
 refine wp_evs [.q, .q, .al, .st 2] [0, 0, 0, 0] (fun R => [.agg (#[.int .u64 0, .int .u64 4, .int .u64 0, .int .u64 0]), .agg limW, undef, undef]) (fun _ => (.cells z5 25 (0, 0))) (fun R _ => (.cells limW 25 (0, 0))) (fun _ => 0) (XE W) (fun _ => False) (by kernel_rfl) (by kernel_rfl) (by kernel_rfl) rfl (fun _ => rfl) (fun _ h => h.elim) (fun _ _ h => h) (by simp) (by simp) (fun R R' => ⟨fun _ => rfl, fun _ => rfl, fun _ => rfl, fun _ => rfl, trivial⟩) (fun _ _ _ _ => rfl) xe_below EE.out ?ops4 ?end4
 case ops4 =>
   refine ⟨?_, ?_, ?_, ?_, trivial⟩
   · refine er_q ?vn1 ?hn1 ?kn1 ?gn1 ?_
     case hn1 => exact rfl
     case vn1 => exact (fun R => .agg (#[.int .u64 0, .int .u64 4, .int .u64 0, .int .u64 0]))
     case kn1 => exact (fun R => rfl)
     case gn1 => exact gd_none rfl
     intro R s w' hT hs hw ha
     go_simp
   · refine er_q ?vn2 ?hn2 ?kn2 ?gn2 ?_
     case hn2 => exact rfl
     case vn2 => exact (fun R => .agg limW)
     case kn2 => exact (fun R => rfl)
     case gn2 => exact gd_none rfl
     intro R s w' hT hs hw ha
     unfold limW
     go_simp
   · refine er_al ?zn3 ?hn3 ?kn3 ?gn3 ?_
     case zn3 => exact (.cells z5 25 (0, 0))
     case hn3 => exact rfl
     case kn3 => exact rfl
     case gn3 => exact gd_none rfl
     intro ρ w'
     go_simp
     exact ⟨rfl, rfl⟩
   · refine er_st (j := 2) (Ty := ?Tn4) (p := ?pn4) (x := ?xn4) ?fn4 ?zn4 ?vn4 ?hn4 ?on4 ?kn4 ?ln4 ?gn4 ?en4 ?_
     case hn4 => exact rfl
     case on4 => exact rfl
     case fn4 => exact (fun R => (.cells limW 25 (0, 0)))
     case zn4 => exact (.cells z5 25 (0, 0))
     case vn4 => exact (fun R => .agg limW)
     case kn4 => exact (fun R => rfl)
     case ln4 => exact rfl
     case gn4 => exact gd_none rfl
     case en4 =>
       intro R
       kernel_rfl
     intro R s ρ w g hT hs hp hx hg hz
     exact ⟨store_row rfl hp hx hz iWide (rfl) (limW_one), fun w1 hF => ext_filled hT hF (Nat.le_trans EE.out.size hg)⟩
 case end4 =>
  intro sI R G w5 hI
  have hS := hI.same
  have hTT := hI.holds
  have hz0 := EE.out.size
  have P4 := P4.sameE hS (fun h => h) (by simp)
  have P8 := P8.sameE hS (fun h => h) (by simp)
  have P10 : Blk w5 (G 2) 25 limW := (hI.fulls 3 (List.mem_range.2 (show 3 < 4 by decide)) 2 rfl).2.2
  have hmP10 := (hI.made 2 (List.mem_range.2 (show 2 < 4 by decide)) rfl).1
  have P10_lo : W.heap.size ≤ G 2 := Nat.le_trans hz0 hmP10
  have ngP4_10 : g0 ≠ G 2 := by omega
  have ngP8_10 : g0 + 1 ≠ G 2 := by omega
  have EE := hide (show Ext _ _ from hTT)
  clear hS hz0 hTT hI
  generalize hF : putE _ _ _ _ _ _ _ = FF
  have hF2 : FF = { tmps := #[.agg B, .int .i64 v, .int .i64 ep, .int .u64 (dt : Int), .pointer (some ⟨g0, 0, none⟩), undef, undef, undef, .pointer (some ⟨g0 + 1, 0, none⟩), .bool false, .pointer (some ⟨G 2, 0, none⟩), undef, undef, undef, undef, undef, undef, undef, undef, .agg (#[.int .u64 0, .int .u64 4, .int .u64 0, .int .u64 0]), .agg limW, undef, undef, undef, undef, undef, undef, undef, undef, undef, undef, undef, undef, undef, undef, undef, undef, undef, undef, undef, undef, undef, undef, undef, undef, undef, undef, undef, undef, undef, undef, undef, undef, undef, undef, undef, undef, undef, undef, undef, undef, undef, undef, undef, undef, undef, undef, undef, undef, undef, undef, undef, undef, undef, undef, undef, undef, undef, undef, undef, undef], defers := [] } := by subst hF; kernel_rfl
  clear hF
  subst hF2
  generalize G 2 = g10 at *
  go_upto_region 2 with fail
  have P4_lt := P4.lt
  have P8_lt := P8.lt
  have P10_lt := P10.lt
  refine wp_evs [.q, .al, .st 1] [0, 0, 0] (fun R => [.agg B, undef, undef]) (fun _ => (.cells z5 25 (0, 0))) (fun R _ => (.cells B 25 (0, 0))) (fun _ => 0) (XE W) (fun _ => False) (by kernel_rfl) (by kernel_rfl) (by kernel_rfl) rfl (fun _ => rfl) (fun _ h => h.elim) (fun _ _ h => h) (by simp) (by simp) (fun R R' => ⟨fun _ => rfl, fun _ => rfl, fun _ => rfl, trivial⟩) (fun _ _ _ _ => rfl) xe_below EE.out ?ops8 ?end8
  case ops8 =>
    refine ⟨?_, ?_, ?_, trivial⟩
    · refine er_q ?vn6 ?hn6 ?kn6 ?gn6 ?_
      case hn6 => exact rfl
      case vn6 => exact (fun R => .agg B)
      case kn6 => exact (fun R => rfl)
      case gn6 => exact gd_none rfl
      intro R s w' hT hs hw ha
      have L := ld_all (P4.sameE hw (fun h => h) (by simp)) uWide rfl iWide sB
      generalize hA : putE _ _ _ _ _ _ _ = AA
      refine q_load rfl ?_ L
      subst hA
      kernel_rfl
    · refine er_al ?zn7 ?hn7 ?kn7 ?gn7 ?_
      case zn7 => exact (.cells z5 25 (0, 0))
      case hn7 => exact rfl
      case kn7 => exact rfl
      case gn7 => exact gd_none rfl
      intro ρ w'
      go_simp
      exact ⟨rfl, rfl⟩
    · refine er_st (j := 1) (Ty := ?Tn8) (p := ?pn8) (x := ?xn8) ?fn8 ?zn8 ?vn8 ?hn8 ?on8 ?kn8 ?ln8 ?gn8 ?en8 ?_
      case hn8 => exact rfl
      case on8 => exact rfl
      case fn8 => exact (fun R => (.cells B 25 (0, 0)))
      case zn8 => exact (.cells z5 25 (0, 0))
      case vn8 => exact (fun R => .agg B)
      case kn8 => exact (fun R => rfl)
      case ln8 => exact rfl
      case gn8 => exact gd_none rfl
      case en8 =>
        intro R
        kernel_rfl
      intro R s ρ w g hT hs hp hx hg hz
      exact ⟨store_row rfl hp hx hz iWide (sB) (oB), fun w1 hF => ext_filled hT hF (Nat.le_trans EE.out.size hg)⟩
  case end8 =>
   intro sI R G w9 hI
   have hS := hI.same
   have hTT := hI.holds
   have hz0 := EE.out.size
   have P4 := P4.sameE hS (fun h => h) (by simp)
   have P8 := P8.sameE hS (fun h => h) (by simp)
   have P10 := P10.sameE hS (fun h => h) (by simp)
   have P11 : Blk w9 (G 1) 25 B := (hI.fulls 2 (List.mem_range.2 (show 2 < 3 by decide)) 1 rfl).2.2
   have hmP11 := (hI.made 1 (List.mem_range.2 (show 1 < 3 by decide)) rfl).1
   have P11_lo : W.heap.size ≤ G 1 := Nat.le_trans hz0 hmP11
   have ngP4_11 : g0 ≠ G 1 := by omega
   have ngP8_11 : g0 + 1 ≠ G 1 := by omega
   have ngP10_11 : g10 ≠ G 1 := by omega
   have EE := hide (show Ext _ _ from hTT)
   clear hS hz0 hTT hI
   generalize hF : putE _ _ _ _ _ _ _ = FF
   have hF2 : FF = { tmps := #[.agg B, .int .i64 v, .int .i64 ep, .int .u64 (dt : Int), .pointer (some ⟨g0, 0, none⟩), undef, undef, undef, .pointer (some ⟨g0 + 1, 0, none⟩), .bool false, .pointer (some ⟨g10, 0, none⟩), .pointer (some ⟨G 1, 0, none⟩), undef, undef, undef, undef, undef, undef, undef, .agg (#[.int .u64 0, .int .u64 4, .int .u64 0, .int .u64 0]), .agg limW, .agg B, undef, undef, undef, undef, undef, undef, undef, undef, undef, undef, undef, undef, undef, undef, undef, undef, undef, undef, undef, undef, undef, undef, undef, undef, undef, undef, undef, undef, undef, undef, undef, undef, undef, undef, undef, undef, undef, undef, undef, undef, undef, undef, undef, undef, undef, undef, undef, undef, undef, undef, undef, undef, undef, undef, undef, undef, undef, undef, undef], defers := [] } := by subst hF; kernel_rfl
   clear hF
   subst hF2
   generalize G 1 = g11 at *
   go_upto_region 3 with fail
   have P4_lt := P4.lt
   have P8_lt := P8.lt
   have P10_lt := P10.lt
   have P11_lt := P11.lt
   refine wp_evs [.q, .so 0] [0, 0] (fun R => [.pointer (some ⟨g11, 0, none⟩), undef]) (fun _ => (.cells #[] 0 (0, 0))) (fun R _ => (.cells S 25 (0, 0))) (fun _ => g11) (XE W) (fun _ => False) (by kernel_rfl) (by kernel_rfl) (by kernel_rfl) rfl (fun _ => rfl) (fun _ h => h.elim) (fun _ _ h => h) (by intro c hc; simp at hc; (try subst hc); (try simp only); omega) (by intro c c' h1 h2 _; simp at h1 h2; omega) (fun R R' => ⟨fun _ => rfl, fun _ => rfl, trivial⟩) (fun _ _ _ _ => rfl) xe_below EE.out ?ops11 ?end11
   case ops11 =>
     refine ⟨?_, ?_, trivial⟩
     · refine er_q ?vn10 ?hn10 ?kn10 ?gn10 ?_
       case hn10 => exact rfl
       case vn10 => exact (fun R => .pointer (some ⟨g11, 0, none⟩))
       case kn10 => exact (fun R => rfl)
       case gn10 => exact gd_none rfl
       intro R s w' hT hs hw ha
       go_simp
     · refine er_so (c := 0) (Ty := ?Tn11) (p := ?pn11) (x := ?xn11) g11 ?fn11 ?un11 ?vn11 ?hn11 ?on11 ?kn11 ?ln11 ?gn11 ?dn11 ?en11 ?_
       case hn11 => exact rfl
       case on11 => exact rfl
       case fn11 => exact (fun R => (.cells S 25 (0, 0)))
       case un11 => exact (fun R => .pointer (some ⟨g11, 0, none⟩))
       case vn11 => exact (fun R => .bool false)
       case kn11 => exact (fun R => rfl)
       case ln11 => exact rfl
       case gn11 => exact gd_none rfl
       case dn11 =>
         intro R
         kernel_rfl
       case en11 =>
         intro R
         kernel_rfl
       intro R s ρ w hT hs hp hx hz
       have hB := (show Blk w g11 _ B from hz.trans P11)
       have hc := (hB.cell 0).trans (hB0)
       have hf := hB.frozen 0
       refine ⟨store_at (g := g11) (Ty := 4) rfl hp hx (hz.trans P11) (hS) ?_, fun w1 hF => ext_filled hT hF P11_lo⟩
       go_simp
   case end11 =>
    intro sI R G w12 hI
    have hS := hI.same
    have hTT := hI.holds
    have hz0 := EE.out.size
    have P4 := P4.sameE hS (fun h => h) (by intro c hc; simp at hc; (try subst hc); (try simp only); omega)
    have P8 := P8.sameE hS (fun h => h) (by intro c hc; simp at hc; (try subst hc); (try simp only); omega)
    have P10 := P10.sameE hS (fun h => h) (by intro c hc; simp at hc; (try subst hc); (try simp only); omega)
    have P11 : Blk w12 g11 25 S := hI.olds' 1 (List.mem_range.2 (show 1 < 2 by decide)) 0 rfl
    have EE := hide (show Ext _ _ from hTT)
    clear hS hz0 hTT hI
    generalize hF : putE _ _ _ _ _ _ _ = FF
    have hF2 : FF = { tmps := #[.agg B, .int .i64 v, .int .i64 ep, .int .u64 (dt : Int), .pointer (some ⟨g0, 0, none⟩), undef, undef, undef, .pointer (some ⟨g0 + 1, 0, none⟩), .bool false, .pointer (some ⟨g10, 0, none⟩), .pointer (some ⟨g11, 0, none⟩), undef, undef, undef, undef, undef, undef, undef, .agg (#[.int .u64 0, .int .u64 4, .int .u64 0, .int .u64 0]), .agg limW, .agg B, .pointer (some ⟨g11, 0, none⟩), undef, undef, undef, undef, undef, undef, undef, undef, undef, undef, undef, undef, undef, undef, undef, undef, undef, undef, undef, undef, undef, undef, undef, undef, undef, undef, undef, undef, undef, undef, undef, undef, undef, undef, undef, undef, undef, undef, undef, undef, undef, undef, undef, undef, undef, undef, undef, undef, undef, undef, undef, undef, undef, undef, undef, undef, undef, undef], defers := [] } := by subst hF; kernel_rfl
    clear hF
    subst hF2
    go_upto_region 4 with fail
    have P4_lt := P4.lt
    have P8_lt := P8.lt
    have P10_lt := P10.lt
    have P11_lt := P11.lt
    refine wp_evs [.q, .q, .q, .q, .sk, .sk, .sk, .sk, .q, .q, .sk, .sk, .sk, .q, .q, .sk, .sk, .q] [0, 0, 0, 0, 0, 0, 0, 0, 0, 0, 0, 0, 0, 0, 0, 0, 0, 0] (fun R => [.agg B, .bool false, .bool true, .bool true, undef, undef, undef, undef, .bool true, .bool true, undef, undef, undef, .bool true, .bool true, undef, undef, .bool true]) (fun _ => (.cells #[] 0 (0, 0))) (fun R _ => (.cells #[] 0 (0, 0))) (fun _ => 0) (XE W) (fun _ => False) (by kernel_rfl) (by kernel_rfl) (by kernel_rfl) rfl (fun _ => rfl) (fun _ h => h.elim) (fun _ _ h => h) (by simp) (by simp) (fun R R' => ⟨fun _ => rfl, fun _ => rfl, fun _ => rfl, fun _ => rfl, fun _ => rfl, fun _ => rfl, fun _ => rfl, fun _ => rfl, fun _ => rfl, fun _ => rfl, fun _ => rfl, fun _ => rfl, fun _ => rfl, fun _ => rfl, fun _ => rfl, fun _ => rfl, fun _ => rfl, fun _ => rfl, trivial⟩) (fun _ _ _ _ => rfl) xe_below EE.out ?ops30 ?end30
    case ops30 =>
      refine ⟨?_, ?_, ?_, ?_, ?_, ?_, ?_, ?_, ?_, ?_, ?_, ?_, ?_, ?_, ?_, ?_, ?_, ?_, trivial⟩
      · refine er_q ?vn13 ?hn13 ?kn13 ?gn13 ?_
        case hn13 => exact rfl
        case vn13 => exact (fun R => .agg B)
        case kn13 => exact (fun R => rfl)
        case gn13 => exact gd_none rfl
        intro R s w' hT hs hw ha
        have L := ld_all (P4.sameE hw (fun h => h) (by simp)) uWide rfl iWide sB
        generalize hA : putE _ _ _ _ _ _ _ = AA
        refine q_load rfl ?_ L
        subst hA
        kernel_rfl
      · refine er_q ?vn14 ?hn14 ?kn14 ?gn14 ?_
        case hn14 => exact rfl
        case vn14 => exact (fun R => .bool false)
        case kn14 => exact (fun R => rfl)
        case gn14 => exact gd_none rfl
        intro R s w' hT hs hw ha
        go_simp
        exact k1.out w'
      · refine er_q ?vn15 ?hn15 ?kn15 ?gn15 ?_
        case hn15 => exact rfl
        case vn15 => exact (fun R => .bool true)
        case kn15 => exact (fun R => rfl)
        case gn15 => exact gd_none rfl
        intro R s w' hT hs hw ha
        go_simp
      · refine er_q ?vn16 ?hn16 ?kn16 ?gn16 ?_
        case hn16 => exact rfl
        case vn16 => exact (fun R => .bool true)
        case kn16 => exact (fun R => rfl)
        case gn16 => exact gd_none rfl
        intro R s w' hT hs hw ha
        go_simp
      · refine er_sk ?hn17 ?gn17
        case hn17 => exact rfl
        case gn17 => (refine gd_some rfl ?_; intro R; kernel_rfl)
      · refine er_sk ?hn18 ?gn18
        case hn18 => exact rfl
        case gn18 => (refine gd_some rfl ?_; intro R; kernel_rfl)
      · refine er_sk ?hn19 ?gn19
        case hn19 => exact rfl
        case gn19 => (refine gd_some rfl ?_; intro R; kernel_rfl)
      · refine er_sk ?hn20 ?gn20
        case hn20 => exact rfl
        case gn20 => (refine gd_some rfl ?_; intro R; kernel_rfl)
      · refine er_q ?vn21 ?hn21 ?kn21 ?gn21 ?_
        case hn21 => exact rfl
        case vn21 => exact (fun R => .bool true)
        case kn21 => exact (fun R => rfl)
        case gn21 => exact gd_none rfl
        intro R s w' hT hs hw ha
        go_simp
      · refine er_q ?vn22 ?hn22 ?kn22 ?gn22 ?_
        case hn22 => exact rfl
        case vn22 => exact (fun R => .bool true)
        case kn22 => exact (fun R => rfl)
        case gn22 => exact gd_none rfl
        intro R s w' hT hs hw ha
        go_simp
      · refine er_sk ?hn23 ?gn23
        case hn23 => exact rfl
        case gn23 => (refine gd_some rfl ?_; intro R; kernel_rfl)
      · refine er_sk ?hn24 ?gn24
        case hn24 => exact rfl
        case gn24 => (refine gd_some rfl ?_; intro R; kernel_rfl)
      · refine er_sk ?hn25 ?gn25
        case hn25 => exact rfl
        case gn25 => (refine gd_some rfl ?_; intro R; kernel_rfl)
      · refine er_q ?vn26 ?hn26 ?kn26 ?gn26 ?_
        case hn26 => exact rfl
        case vn26 => exact (fun R => .bool true)
        case kn26 => exact (fun R => rfl)
        case gn26 => exact gd_none rfl
        intro R s w' hT hs hw ha
        go_simp
      · refine er_q ?vn27 ?hn27 ?kn27 ?gn27 ?_
        case hn27 => exact rfl
        case vn27 => exact (fun R => .bool true)
        case kn27 => exact (fun R => rfl)
        case gn27 => exact gd_none rfl
        intro R s w' hT hs hw ha
        go_simp
      · refine er_sk ?hn28 ?gn28
        case hn28 => exact rfl
        case gn28 => (refine gd_some rfl ?_; intro R; kernel_rfl)
      · refine er_sk ?hn29 ?gn29
        case hn29 => exact rfl
        case gn29 => (refine gd_some rfl ?_; intro R; kernel_rfl)
      · refine er_q ?vn30 ?hn30 ?kn30 ?gn30 ?_
        case hn30 => exact rfl
        case vn30 => exact (fun R => .bool true)
        case kn30 => exact (fun R => rfl)
        case gn30 => exact gd_none rfl
        intro R s w' hT hs hw ha
        go_simp
    case end30 =>
     intro sI R G w31 hI
     have hS := hI.same
     have hTT := hI.holds
     have hz0 := EE.out.size
     have P4 := P4.sameE hS (fun h => h) (by simp)
     have P8 := P8.sameE hS (fun h => h) (by simp)
     have P10 := P10.sameE hS (fun h => h) (by simp)
     have P11 := P11.sameE hS (fun h => h) (by simp)
     have EE := hide (show Ext _ _ from hTT)
     clear hS hz0 hTT hI
     generalize hF : putE _ _ _ _ _ _ _ = FF
     have hF2 : FF = { tmps := #[.agg B, .int .i64 v, .int .i64 ep, .int .u64 (dt : Int), .pointer (some ⟨g0, 0, none⟩), undef, undef, undef, .pointer (some ⟨g0 + 1, 0, none⟩), .bool false, .pointer (some ⟨g10, 0, none⟩), .pointer (some ⟨g11, 0, none⟩), undef, undef, undef, undef, undef, undef, undef, .agg (#[.int .u64 0, .int .u64 4, .int .u64 0, .int .u64 0]), .agg limW, .agg B, .pointer (some ⟨g11, 0, none⟩), .agg B, .bool false, .bool true, .bool true, undef, undef, undef, undef, .bool true, .bool true, undef, undef, undef, .bool true, .bool true, undef, undef, .bool true, undef, undef, undef, undef, undef, undef, undef, undef, undef, undef, undef, undef, undef, undef, undef, undef, undef, undef, undef, undef, undef, undef, undef, undef, undef, undef, undef, undef, undef, undef, undef, undef, undef, undef, undef, undef, undef, undef, undef, undef], defers := [] } := by subst hF; kernel_rfl
     clear hF
     subst hF2
     go_upto_region 5 with fail
     have P4_lt := P4.lt
     have P8_lt := P8.lt
     have P10_lt := P10.lt
     have P11_lt := P11.lt
     refine wp_evs [.q, .so 0, .q] [0, 0, 0] (fun R => [.agg z21, undef, .bool false]) (fun _ => (.cells #[] 0 (0, 0))) (fun R _ => (.cells z21 42 (0, 0))) (fun _ => g0 + 1) (XE W) (fun _ => False) (by kernel_rfl) (by kernel_rfl) (by kernel_rfl) rfl (fun _ => rfl) (fun _ h => h.elim) (fun _ _ h => h) (by intro c hc; simp at hc; (try subst hc); (try simp only); omega) (by intro c c' h1 h2 _; simp at h1 h2; omega) (fun R R' => ⟨fun _ => rfl, fun _ => rfl, fun _ => rfl, trivial⟩) (fun _ _ _ _ => rfl) xe_below EE.out ?ops34 ?end34
     case ops34 =>
       refine ⟨?_, ?_, ?_, trivial⟩
       · refine er_q ?vn32 ?hn32 ?kn32 ?gn32 ?_
         case hn32 => exact rfl
         case vn32 => exact (fun R => .agg z21)
         case kn32 => exact (fun R => rfl)
         case gn32 => exact gd_none rfl
         intro R s w' hT hs hw ha
         unfold z21
         go_simp
       · refine er_so (c := 0) (Ty := ?Tn33) (p := ?pn33) (x := ?xn33) (g0 + 1) ?fn33 ?un33 ?vn33 ?hn33 ?on33 ?kn33 ?ln33 ?gn33 ?dn33 ?en33 ?_
         case hn33 => exact rfl
         case on33 => exact rfl
         case fn33 => exact (fun R => (.cells z21 42 (0, 0)))
         case un33 => exact (fun R => .pointer (some ⟨g0 + 1, 0, none⟩))
         case vn33 => exact (fun R => .agg z21)
         case kn33 => exact (fun R => rfl)
         case ln33 => exact rfl
         case gn33 => exact gd_none rfl
         case dn33 =>
           intro R
           kernel_rfl
         case en33 =>
           intro R
           kernel_rfl
         intro R s ρ w hT hs hp hx hz
         refine ⟨store_rowN (g := (g0 + 1)) rfl hp hx (hz.trans P8) iCone (rfl) (rfl) (z21_one), fun w1 hF => ext_filled hT hF P8_lo⟩
       · refine er_q ?vn34 ?hn34 ?kn34 ?gn34 ?_
         case hn34 => exact rfl
         case vn34 => exact (fun R => .bool false)
         case kn34 => exact (fun R => rfl)
         case gn34 => exact gd_none rfl
         intro R s w' hT hs hw ha
         go_simp
     case end34 =>
      intro sI R G w35 hI
      have hS := hI.same
      have hTT := hI.holds
      have hz0 := EE.out.size
      have P4 := P4.sameE hS (fun h => h) (by intro c hc; simp at hc; (try subst hc); (try simp only); omega)
      have P10 := P10.sameE hS (fun h => h) (by intro c hc; simp at hc; (try subst hc); (try simp only); omega)
      have P11 := P11.sameE hS (fun h => h) (by intro c hc; simp at hc; (try subst hc); (try simp only); omega)
      have P8 : Blk w35 (g0 + 1) 42 z21 := hI.olds' 1 (List.mem_range.2 (show 1 < 3 by decide)) 0 rfl
      have EE := hide (show Ext _ _ from hTT)
      clear hS hz0 hTT hI
      generalize hF : putE _ _ _ _ _ _ _ = FF
      have hF2 : FF = { tmps := #[.agg B, .int .i64 v, .int .i64 ep, .int .u64 (dt : Int), .pointer (some ⟨g0, 0, none⟩), undef, undef, undef, .pointer (some ⟨g0 + 1, 0, none⟩), .bool false, .pointer (some ⟨g10, 0, none⟩), .pointer (some ⟨g11, 0, none⟩), undef, undef, undef, undef, undef, undef, undef, .agg (#[.int .u64 0, .int .u64 4, .int .u64 0, .int .u64 0]), .agg limW, .agg B, .pointer (some ⟨g11, 0, none⟩), .agg B, .bool false, .bool true, .bool true, undef, undef, undef, undef, .bool true, .bool true, undef, undef, undef, .bool true, .bool true, undef, undef, .bool true, .agg z21, undef, undef, undef, undef, undef, undef, undef, undef, undef, undef, undef, undef, undef, undef, undef, undef, undef, undef, undef, undef, undef, undef, undef, undef, undef, undef, undef, undef, undef, undef, undef, undef, undef, undef, undef, undef, undef, undef, undef], defers := [] } := by subst hF; kernel_rfl
      clear hF
      subst hF2
      go_wp2_with fail
      exact bodyPost_ret (res_row2 (p := 8) (u := 9) (ty := 42) rfl _ _ _ 42 z21 _ rfl P8 uCone rfl rfl) rfl ⟨by kernel_rfl, EE.out⟩
set_option maxHeartbeats 6400000 in
set_option maxRecDepth 100000 in
theorem rc_throughF2 (B S : Array Value) (v ep : Int) (dt : Nat) (r : Int) (W : World) (sB : B.size = 5) (oB : B.all (·.oneCell') = true) (sS : S.size = 5) (oS : S.all (·.oneCell') = true) (nb : Bool) (hB0 : B[0]? = some (.bool nb)) (hS : B.setIfInBounds 0 (.bool false) = S)
   (k1 : Hid (∀ w, Calls Try.prog 62 #[.agg B] w (Ret (.bool true) w))) (k2 : Hid (∀ w, Calls Try.prog 23 #[.agg S, .agg limW] w (Ret (.int .i64 r) w))) (hr : 0 ≤ r) :
   Calls Try.prog 36 #[.agg B, .int .i64 v, .int .i64 ep, .int .u64 (dt : Int)] W (Ret (.tuple #[.agg z21, .bool false]) W) := by
 have d1 : decide (0 ≤ r) = true := decide_eq_true hr
 have P4 := (Blk.new W 25 B).alloc (.cells z21 42)
 have P8 := Blk.new (W.alloc (.cells B 25)) 42 z21
 rw [alloc_size] at P8
 have EE := hide ((ext_alloc W (.cells B 25)).trans (ext_alloc _ (.cells z21 42)))
 obtain ⟨W1, hW1⟩ : ∃ W1, ((W.alloc (.cells B 25)).alloc (.cells z21 42)) = W1 := ⟨_, rfl⟩
 obtain ⟨g0, hg⟩ : ∃ g, W.heap.size = g := ⟨_, rfl⟩
 rw [hW1] at P4 P8 EE
 rw [hg] at P4 P8
 have P4_lo : W.heap.size ≤ g0 := by omega
 have P8_lo : W.heap.size ≤ g0 + 1 := by omega
 have HW := hide hW1
 have Hg := hide hg
 clear hW1 hg
 go_enter Try.func36, Try.ntmps36
 go_upto_region 1 with fail
 unfold z21 at HW
 rw [HW.out, Hg.out]
 clear HW Hg
 have P4_lt := P4.lt
 have P8_lt := P8.lt
 refine wp_evs [.q, .q, .al, .st 2] [0, 0, 0, 0] (fun R => [.agg (#[.int .u64 0, .int .u64 4, .int .u64 0, .int .u64 0]), .agg limW, undef, undef]) (fun _ => (.cells z5 25 (0, 0))) (fun R _ => (.cells limW 25 (0, 0))) (fun _ => 0) (XE W) (fun _ => False) (by kernel_rfl) (by kernel_rfl) (by kernel_rfl) rfl (fun _ => rfl) (fun _ h => h.elim) (fun _ _ h => h) (by simp) (by simp) (fun R R' => ⟨fun _ => rfl, fun _ => rfl, fun _ => rfl, fun _ => rfl, trivial⟩) (fun _ _ _ _ => rfl) xe_below EE.out ?ops4 ?end4
 case ops4 =>
   refine ⟨?_, ?_, ?_, ?_, trivial⟩
   · refine er_q ?vn1 ?hn1 ?kn1 ?gn1 ?_
     case hn1 => exact rfl
     case vn1 => exact (fun R => .agg (#[.int .u64 0, .int .u64 4, .int .u64 0, .int .u64 0]))
     case kn1 => exact (fun R => rfl)
     case gn1 => exact gd_none rfl
     intro R s w' hT hs hw ha
     go_simp
   · refine er_q ?vn2 ?hn2 ?kn2 ?gn2 ?_
     case hn2 => exact rfl
     case vn2 => exact (fun R => .agg limW)
     case kn2 => exact (fun R => rfl)
     case gn2 => exact gd_none rfl
     intro R s w' hT hs hw ha
     unfold limW
     go_simp
   · refine er_al ?zn3 ?hn3 ?kn3 ?gn3 ?_
     case zn3 => exact (.cells z5 25 (0, 0))
     case hn3 => exact rfl
     case kn3 => exact rfl
     case gn3 => exact gd_none rfl
     intro ρ w'
     go_simp
     exact ⟨rfl, rfl⟩
   · refine er_st (j := 2) (Ty := ?Tn4) (p := ?pn4) (x := ?xn4) ?fn4 ?zn4 ?vn4 ?hn4 ?on4 ?kn4 ?ln4 ?gn4 ?en4 ?_
     case hn4 => exact rfl
     case on4 => exact rfl
     case fn4 => exact (fun R => (.cells limW 25 (0, 0)))
     case zn4 => exact (.cells z5 25 (0, 0))
     case vn4 => exact (fun R => .agg limW)
     case kn4 => exact (fun R => rfl)
     case ln4 => exact rfl
     case gn4 => exact gd_none rfl
     case en4 =>
       intro R
       kernel_rfl
     intro R s ρ w g hT hs hp hx hg hz
     exact ⟨store_row rfl hp hx hz iWide (rfl) (limW_one), fun w1 hF => ext_filled hT hF (Nat.le_trans EE.out.size hg)⟩
 case end4 =>
  intro sI R G w5 hI
  have hS := hI.same
  have hTT := hI.holds
  have hz0 := EE.out.size
  have P4 := P4.sameE hS (fun h => h) (by simp)
  have P8 := P8.sameE hS (fun h => h) (by simp)
  have P10 : Blk w5 (G 2) 25 limW := (hI.fulls 3 (List.mem_range.2 (show 3 < 4 by decide)) 2 rfl).2.2
  have hmP10 := (hI.made 2 (List.mem_range.2 (show 2 < 4 by decide)) rfl).1
  have P10_lo : W.heap.size ≤ G 2 := Nat.le_trans hz0 hmP10
  have ngP4_10 : g0 ≠ G 2 := by omega
  have ngP8_10 : g0 + 1 ≠ G 2 := by omega
  have EE := hide (show Ext _ _ from hTT)
  clear hS hz0 hTT hI
  generalize hF : putE _ _ _ _ _ _ _ = FF
  have hF2 : FF = { tmps := #[.agg B, .int .i64 v, .int .i64 ep, .int .u64 (dt : Int), .pointer (some ⟨g0, 0, none⟩), undef, undef, undef, .pointer (some ⟨g0 + 1, 0, none⟩), .bool false, .pointer (some ⟨G 2, 0, none⟩), undef, undef, undef, undef, undef, undef, undef, undef, .agg (#[.int .u64 0, .int .u64 4, .int .u64 0, .int .u64 0]), .agg limW, undef, undef, undef, undef, undef, undef, undef, undef, undef, undef, undef, undef, undef, undef, undef, undef, undef, undef, undef, undef, undef, undef, undef, undef, undef, undef, undef, undef, undef, undef, undef, undef, undef, undef, undef, undef, undef, undef, undef, undef, undef, undef, undef, undef, undef, undef, undef, undef, undef, undef, undef, undef, undef, undef, undef, undef, undef, undef, undef, undef], defers := [] } := by subst hF; kernel_rfl
  clear hF
  subst hF2
  generalize G 2 = g10 at *
  go_upto_region 2 with fail
  have P4_lt := P4.lt
  have P8_lt := P8.lt
  have P10_lt := P10.lt
  refine wp_evs [.q, .al, .st 1] [0, 0, 0] (fun R => [.agg B, undef, undef]) (fun _ => (.cells z5 25 (0, 0))) (fun R _ => (.cells B 25 (0, 0))) (fun _ => 0) (XE W) (fun _ => False) (by kernel_rfl) (by kernel_rfl) (by kernel_rfl) rfl (fun _ => rfl) (fun _ h => h.elim) (fun _ _ h => h) (by simp) (by simp) (fun R R' => ⟨fun _ => rfl, fun _ => rfl, fun _ => rfl, trivial⟩) (fun _ _ _ _ => rfl) xe_below EE.out ?ops8 ?end8
  case ops8 =>
    refine ⟨?_, ?_, ?_, trivial⟩
    · refine er_q ?vn6 ?hn6 ?kn6 ?gn6 ?_
      case hn6 => exact rfl
      case vn6 => exact (fun R => .agg B)
      case kn6 => exact (fun R => rfl)
      case gn6 => exact gd_none rfl
      intro R s w' hT hs hw ha
      have L := ld_all (P4.sameE hw (fun h => h) (by simp)) uWide rfl iWide sB
      generalize hA : putE _ _ _ _ _ _ _ = AA
      refine q_load rfl ?_ L
      subst hA
      kernel_rfl
    · refine er_al ?zn7 ?hn7 ?kn7 ?gn7 ?_
      case zn7 => exact (.cells z5 25 (0, 0))
      case hn7 => exact rfl
      case kn7 => exact rfl
      case gn7 => exact gd_none rfl
      intro ρ w'
      go_simp
      exact ⟨rfl, rfl⟩
    · refine er_st (j := 1) (Ty := ?Tn8) (p := ?pn8) (x := ?xn8) ?fn8 ?zn8 ?vn8 ?hn8 ?on8 ?kn8 ?ln8 ?gn8 ?en8 ?_
      case hn8 => exact rfl
      case on8 => exact rfl
      case fn8 => exact (fun R => (.cells B 25 (0, 0)))
      case zn8 => exact (.cells z5 25 (0, 0))
      case vn8 => exact (fun R => .agg B)
      case kn8 => exact (fun R => rfl)
      case ln8 => exact rfl
      case gn8 => exact gd_none rfl
      case en8 =>
        intro R
        kernel_rfl
      intro R s ρ w g hT hs hp hx hg hz
      exact ⟨store_row rfl hp hx hz iWide (sB) (oB), fun w1 hF => ext_filled hT hF (Nat.le_trans EE.out.size hg)⟩
  case end8 =>
   intro sI R G w9 hI
   have hS := hI.same
   have hTT := hI.holds
   have hz0 := EE.out.size
   have P4 := P4.sameE hS (fun h => h) (by simp)
   have P8 := P8.sameE hS (fun h => h) (by simp)
   have P10 := P10.sameE hS (fun h => h) (by simp)
   have P11 : Blk w9 (G 1) 25 B := (hI.fulls 2 (List.mem_range.2 (show 2 < 3 by decide)) 1 rfl).2.2
   have hmP11 := (hI.made 1 (List.mem_range.2 (show 1 < 3 by decide)) rfl).1
   have P11_lo : W.heap.size ≤ G 1 := Nat.le_trans hz0 hmP11
   have ngP4_11 : g0 ≠ G 1 := by omega
   have ngP8_11 : g0 + 1 ≠ G 1 := by omega
   have ngP10_11 : g10 ≠ G 1 := by omega
   have EE := hide (show Ext _ _ from hTT)
   clear hS hz0 hTT hI
   generalize hF : putE _ _ _ _ _ _ _ = FF
   have hF2 : FF = { tmps := #[.agg B, .int .i64 v, .int .i64 ep, .int .u64 (dt : Int), .pointer (some ⟨g0, 0, none⟩), undef, undef, undef, .pointer (some ⟨g0 + 1, 0, none⟩), .bool false, .pointer (some ⟨g10, 0, none⟩), .pointer (some ⟨G 1, 0, none⟩), undef, undef, undef, undef, undef, undef, undef, .agg (#[.int .u64 0, .int .u64 4, .int .u64 0, .int .u64 0]), .agg limW, .agg B, undef, undef, undef, undef, undef, undef, undef, undef, undef, undef, undef, undef, undef, undef, undef, undef, undef, undef, undef, undef, undef, undef, undef, undef, undef, undef, undef, undef, undef, undef, undef, undef, undef, undef, undef, undef, undef, undef, undef, undef, undef, undef, undef, undef, undef, undef, undef, undef, undef, undef, undef, undef, undef, undef, undef, undef, undef, undef, undef], defers := [] } := by subst hF; kernel_rfl
   clear hF
   subst hF2
   generalize G 1 = g11 at *
   go_upto_region 3 with fail
   have P4_lt := P4.lt
   have P8_lt := P8.lt
   have P10_lt := P10.lt
   have P11_lt := P11.lt
   refine wp_evs [.q, .so 0] [0, 0] (fun R => [.pointer (some ⟨g11, 0, none⟩), undef]) (fun _ => (.cells #[] 0 (0, 0))) (fun R _ => (.cells S 25 (0, 0))) (fun _ => g11) (XE W) (fun _ => False) (by kernel_rfl) (by kernel_rfl) (by kernel_rfl) rfl (fun _ => rfl) (fun _ h => h.elim) (fun _ _ h => h) (by intro c hc; simp at hc; (try subst hc); (try simp only); omega) (by intro c c' h1 h2 _; simp at h1 h2; omega) (fun R R' => ⟨fun _ => rfl, fun _ => rfl, trivial⟩) (fun _ _ _ _ => rfl) xe_below EE.out ?ops11 ?end11
   case ops11 =>
     refine ⟨?_, ?_, trivial⟩
     · refine er_q ?vn10 ?hn10 ?kn10 ?gn10 ?_
       case hn10 => exact rfl
       case vn10 => exact (fun R => .pointer (some ⟨g11, 0, none⟩))
       case kn10 => exact (fun R => rfl)
       case gn10 => exact gd_none rfl
       intro R s w' hT hs hw ha
       go_simp
     · refine er_so (c := 0) (Ty := ?Tn11) (p := ?pn11) (x := ?xn11) g11 ?fn11 ?un11 ?vn11 ?hn11 ?on11 ?kn11 ?ln11 ?gn11 ?dn11 ?en11 ?_
       case hn11 => exact rfl
       case on11 => exact rfl
       case fn11 => exact (fun R => (.cells S 25 (0, 0)))
       case un11 => exact (fun R => .pointer (some ⟨g11, 0, none⟩))
       case vn11 => exact (fun R => .bool false)
       case kn11 => exact (fun R => rfl)
       case ln11 => exact rfl
       case gn11 => exact gd_none rfl
       case dn11 =>
         intro R
         kernel_rfl
       case en11 =>
         intro R
         kernel_rfl
       intro R s ρ w hT hs hp hx hz
       have hB := (show Blk w g11 _ B from hz.trans P11)
       have hc := (hB.cell 0).trans (hB0)
       have hf := hB.frozen 0
       refine ⟨store_at (g := g11) (Ty := 4) rfl hp hx (hz.trans P11) (hS) ?_, fun w1 hF => ext_filled hT hF P11_lo⟩
       go_simp
   case end11 =>
    intro sI R G w12 hI
    have hS := hI.same
    have hTT := hI.holds
    have hz0 := EE.out.size
    have P4 := P4.sameE hS (fun h => h) (by intro c hc; simp at hc; (try subst hc); (try simp only); omega)
    have P8 := P8.sameE hS (fun h => h) (by intro c hc; simp at hc; (try subst hc); (try simp only); omega)
    have P10 := P10.sameE hS (fun h => h) (by intro c hc; simp at hc; (try subst hc); (try simp only); omega)
    have P11 : Blk w12 g11 25 S := hI.olds' 1 (List.mem_range.2 (show 1 < 2 by decide)) 0 rfl
    have EE := hide (show Ext _ _ from hTT)
    clear hS hz0 hTT hI
    generalize hF : putE _ _ _ _ _ _ _ = FF
    have hF2 : FF = { tmps := #[.agg B, .int .i64 v, .int .i64 ep, .int .u64 (dt : Int), .pointer (some ⟨g0, 0, none⟩), undef, undef, undef, .pointer (some ⟨g0 + 1, 0, none⟩), .bool false, .pointer (some ⟨g10, 0, none⟩), .pointer (some ⟨g11, 0, none⟩), undef, undef, undef, undef, undef, undef, undef, .agg (#[.int .u64 0, .int .u64 4, .int .u64 0, .int .u64 0]), .agg limW, .agg B, .pointer (some ⟨g11, 0, none⟩), undef, undef, undef, undef, undef, undef, undef, undef, undef, undef, undef, undef, undef, undef, undef, undef, undef, undef, undef, undef, undef, undef, undef, undef, undef, undef, undef, undef, undef, undef, undef, undef, undef, undef, undef, undef, undef, undef, undef, undef, undef, undef, undef, undef, undef, undef, undef, undef, undef, undef, undef, undef, undef, undef, undef, undef, undef, undef], defers := [] } := by subst hF; kernel_rfl
    clear hF
    subst hF2
    go_upto_region 4 with fail
    have P4_lt := P4.lt
    have P8_lt := P8.lt
    have P10_lt := P10.lt
    have P11_lt := P11.lt
    refine wp_evs [.q, .q, .q, .q, .q, .q, .q, .q, .q, .q, .sk, .sk, .sk, .q, .q, .sk, .sk, .q] [0, 0, 0, 0, 0, 0, 0, 0, 0, 0, 0, 0, 0, 0, 0, 0, 0, 0] (fun R => [.agg B, .bool true, .bool false, .bool false, .agg S, .agg limW, .int .i64 r, .bool true, .bool true, .bool true, undef, undef, undef, .bool true, .bool true, undef, undef, .bool true]) (fun _ => (.cells #[] 0 (0, 0))) (fun R _ => (.cells #[] 0 (0, 0))) (fun _ => 0) (XE W) (fun _ => False) (by kernel_rfl) (by kernel_rfl) (by kernel_rfl) rfl (fun _ => rfl) (fun _ h => h.elim) (fun _ _ h => h) (by simp) (by simp) (fun R R' => ⟨fun _ => rfl, fun _ => rfl, fun _ => rfl, fun _ => rfl, fun _ => rfl, fun _ => rfl, fun _ => rfl, fun _ => rfl, fun _ => rfl, fun _ => rfl, fun _ => rfl, fun _ => rfl, fun _ => rfl, fun _ => rfl, fun _ => rfl, fun _ => rfl, fun _ => rfl, fun _ => rfl, trivial⟩) (fun _ _ _ _ => rfl) xe_below EE.out ?ops30 ?end30
    case ops30 =>
      refine ⟨?_, ?_, ?_, ?_, ?_, ?_, ?_, ?_, ?_, ?_, ?_, ?_, ?_, ?_, ?_, ?_, ?_, ?_, trivial⟩
      · refine er_q ?vn13 ?hn13 ?kn13 ?gn13 ?_
        case hn13 => exact rfl
        case vn13 => exact (fun R => .agg B)
        case kn13 => exact (fun R => rfl)
        case gn13 => exact gd_none rfl
        intro R s w' hT hs hw ha
        have L := ld_all (P4.sameE hw (fun h => h) (by simp)) uWide rfl iWide sB
        generalize hA : putE _ _ _ _ _ _ _ = AA
        refine q_load rfl ?_ L
        subst hA
        kernel_rfl
      · refine er_q ?vn14 ?hn14 ?kn14 ?gn14 ?_
        case hn14 => exact rfl
        case vn14 => exact (fun R => .bool true)
        case kn14 => exact (fun R => rfl)
        case gn14 => exact gd_none rfl
        intro R s w' hT hs hw ha
        go_simp
        exact k1.out w'
      · refine er_q ?vn15 ?hn15 ?kn15 ?gn15 ?_
        case hn15 => exact rfl
        case vn15 => exact (fun R => .bool false)
        case kn15 => exact (fun R => rfl)
        case gn15 => exact gd_none rfl
        intro R s w' hT hs hw ha
        go_simp
      · refine er_q ?vn16 ?hn16 ?kn16 ?gn16 ?_
        case hn16 => exact rfl
        case vn16 => exact (fun R => .bool false)
        case kn16 => exact (fun R => rfl)
        case gn16 => exact gd_none rfl
        intro R s w' hT hs hw ha
        go_simp
      · refine er_q ?vn17 ?hn17 ?kn17 ?gn17 ?_
        case hn17 => exact rfl
        case vn17 => exact (fun R => .agg S)
        case kn17 => exact (fun R => rfl)
        case gn17 => (refine gd_some rfl ?_; intro R; kernel_rfl)
        intro R s w' hT hs hw ha
        have L := ld_all (P11.sameE hw (fun h => h) (by simp)) uWide rfl iWide sS
        generalize hA : putE _ _ _ _ _ _ _ = AA
        refine q_load rfl ?_ L
        subst hA
        kernel_rfl
      · refine er_q ?vn18 ?hn18 ?kn18 ?gn18 ?_
        case hn18 => exact rfl
        case vn18 => exact (fun R => .agg limW)
        case kn18 => exact (fun R => rfl)
        case gn18 => (refine gd_some rfl ?_; intro R; kernel_rfl)
        intro R s w' hT hs hw ha
        have L := ld_all (P10.sameE hw (fun h => h) (by simp)) uWide rfl iWide rfl
        generalize hA : putE _ _ _ _ _ _ _ = AA
        refine q_load rfl ?_ L
        subst hA
        kernel_rfl
      · refine er_q ?vn19 ?hn19 ?kn19 ?gn19 ?_
        case hn19 => exact rfl
        case vn19 => exact (fun R => .int .i64 r)
        case kn19 => exact (fun R => rfl)
        case gn19 => (refine gd_some rfl ?_; intro R; kernel_rfl)
        intro R s w' hT hs hw ha
        go_simp
        exact k2.out w'
      · refine er_q ?vn20 ?hn20 ?kn20 ?gn20 ?_
        case hn20 => exact rfl
        case vn20 => exact (fun R => .bool true)
        case kn20 => exact (fun R => rfl)
        case gn20 => (refine gd_some rfl ?_; intro R; kernel_rfl)
        intro R s w' hT hs hw ha
        go_simp
      · refine er_q ?vn21 ?hn21 ?kn21 ?gn21 ?_
        case hn21 => exact rfl
        case vn21 => exact (fun R => .bool true)
        case kn21 => exact (fun R => rfl)
        case gn21 => exact gd_none rfl
        intro R s w' hT hs hw ha
        go_simp
      · refine er_q ?vn22 ?hn22 ?kn22 ?gn22 ?_
        case hn22 => exact rfl
        case vn22 => exact (fun R => .bool true)
        case kn22 => exact (fun R => rfl)
        case gn22 => exact gd_none rfl
        intro R s w' hT hs hw ha
        go_simp
      · refine er_sk ?hn23 ?gn23
        case hn23 => exact rfl
        case gn23 => (refine gd_some rfl ?_; intro R; kernel_rfl)
      · refine er_sk ?hn24 ?gn24
        case hn24 => exact rfl
        case gn24 => (refine gd_some rfl ?_; intro R; kernel_rfl)
      · refine er_sk ?hn25 ?gn25
        case hn25 => exact rfl
        case gn25 => (refine gd_some rfl ?_; intro R; kernel_rfl)
      · refine er_q ?vn26 ?hn26 ?kn26 ?gn26 ?_
        case hn26 => exact rfl
        case vn26 => exact (fun R => .bool true)
        case kn26 => exact (fun R => rfl)
        case gn26 => exact gd_none rfl
        intro R s w' hT hs hw ha
        go_simp
      · refine er_q ?vn27 ?hn27 ?kn27 ?gn27 ?_
        case hn27 => exact rfl
        case vn27 => exact (fun R => .bool true)
        case kn27 => exact (fun R => rfl)
        case gn27 => exact gd_none rfl
        intro R s w' hT hs hw ha
        go_simp
      · refine er_sk ?hn28 ?gn28
        case hn28 => exact rfl
        case gn28 => (refine gd_some rfl ?_; intro R; kernel_rfl)
      · refine er_sk ?hn29 ?gn29
        case hn29 => exact rfl
        case gn29 => (refine gd_some rfl ?_; intro R; kernel_rfl)
      · refine er_q ?vn30 ?hn30 ?kn30 ?gn30 ?_
        case hn30 => exact rfl
        case vn30 => exact (fun R => .bool true)
        case kn30 => exact (fun R => rfl)
        case gn30 => exact gd_none rfl
        intro R s w' hT hs hw ha
        go_simp
    case end30 =>
     intro sI R G w31 hI
     have hS := hI.same
     have hTT := hI.holds
     have hz0 := EE.out.size
     have P4 := P4.sameE hS (fun h => h) (by simp)
     have P8 := P8.sameE hS (fun h => h) (by simp)
     have P10 := P10.sameE hS (fun h => h) (by simp)
     have P11 := P11.sameE hS (fun h => h) (by simp)
     have EE := hide (show Ext _ _ from hTT)
     clear hS hz0 hTT hI
     generalize hF : putE _ _ _ _ _ _ _ = FF
     have hF2 : FF = { tmps := #[.agg B, .int .i64 v, .int .i64 ep, .int .u64 (dt : Int), .pointer (some ⟨g0, 0, none⟩), undef, undef, undef, .pointer (some ⟨g0 + 1, 0, none⟩), .bool false, .pointer (some ⟨g10, 0, none⟩), .pointer (some ⟨g11, 0, none⟩), undef, undef, undef, undef, undef, undef, undef, .agg (#[.int .u64 0, .int .u64 4, .int .u64 0, .int .u64 0]), .agg limW, .agg B, .pointer (some ⟨g11, 0, none⟩), .agg B, .bool true, .bool false, .bool false, .agg S, .agg limW, .int .i64 r, .bool true, .bool true, .bool true, undef, undef, undef, .bool true, .bool true, undef, undef, .bool true, undef, undef, undef, undef, undef, undef, undef, undef, undef, undef, undef, undef, undef, undef, undef, undef, undef, undef, undef, undef, undef, undef, undef, undef, undef, undef, undef, undef, undef, undef, undef, undef, undef, undef, undef, undef, undef, undef, undef, undef], defers := [] } := by subst hF; kernel_rfl
     clear hF
     subst hF2
     go_upto_region 5 with fail
     have P4_lt := P4.lt
     have P8_lt := P8.lt
     have P10_lt := P10.lt
     have P11_lt := P11.lt
     refine wp_evs [.q, .so 0, .q] [0, 0, 0] (fun R => [.agg z21, undef, .bool false]) (fun _ => (.cells #[] 0 (0, 0))) (fun R _ => (.cells z21 42 (0, 0))) (fun _ => g0 + 1) (XE W) (fun _ => False) (by kernel_rfl) (by kernel_rfl) (by kernel_rfl) rfl (fun _ => rfl) (fun _ h => h.elim) (fun _ _ h => h) (by intro c hc; simp at hc; (try subst hc); (try simp only); omega) (by intro c c' h1 h2 _; simp at h1 h2; omega) (fun R R' => ⟨fun _ => rfl, fun _ => rfl, fun _ => rfl, trivial⟩) (fun _ _ _ _ => rfl) xe_below EE.out ?ops34 ?end34
     case ops34 =>
       refine ⟨?_, ?_, ?_, trivial⟩
       · refine er_q ?vn32 ?hn32 ?kn32 ?gn32 ?_
         case hn32 => exact rfl
         case vn32 => exact (fun R => .agg z21)
         case kn32 => exact (fun R => rfl)
         case gn32 => exact gd_none rfl
         intro R s w' hT hs hw ha
         unfold z21
         go_simp
       · refine er_so (c := 0) (Ty := ?Tn33) (p := ?pn33) (x := ?xn33) (g0 + 1) ?fn33 ?un33 ?vn33 ?hn33 ?on33 ?kn33 ?ln33 ?gn33 ?dn33 ?en33 ?_
         case hn33 => exact rfl
         case on33 => exact rfl
         case fn33 => exact (fun R => (.cells z21 42 (0, 0)))
         case un33 => exact (fun R => .pointer (some ⟨g0 + 1, 0, none⟩))
         case vn33 => exact (fun R => .agg z21)
         case kn33 => exact (fun R => rfl)
         case ln33 => exact rfl
         case gn33 => exact gd_none rfl
         case dn33 =>
           intro R
           kernel_rfl
         case en33 =>
           intro R
           kernel_rfl
         intro R s ρ w hT hs hp hx hz
         refine ⟨store_rowN (g := (g0 + 1)) rfl hp hx (hz.trans P8) iCone (rfl) (rfl) (z21_one), fun w1 hF => ext_filled hT hF P8_lo⟩
       · refine er_q ?vn34 ?hn34 ?kn34 ?gn34 ?_
         case hn34 => exact rfl
         case vn34 => exact (fun R => .bool false)
         case kn34 => exact (fun R => rfl)
         case gn34 => exact gd_none rfl
         intro R s w' hT hs hw ha
         go_simp
     case end34 =>
      intro sI R G w35 hI
      have hS := hI.same
      have hTT := hI.holds
      have hz0 := EE.out.size
      have P4 := P4.sameE hS (fun h => h) (by intro c hc; simp at hc; (try subst hc); (try simp only); omega)
      have P10 := P10.sameE hS (fun h => h) (by intro c hc; simp at hc; (try subst hc); (try simp only); omega)
      have P11 := P11.sameE hS (fun h => h) (by intro c hc; simp at hc; (try subst hc); (try simp only); omega)
      have P8 : Blk w35 (g0 + 1) 42 z21 := hI.olds' 1 (List.mem_range.2 (show 1 < 3 by decide)) 0 rfl
      have EE := hide (show Ext _ _ from hTT)
      clear hS hz0 hTT hI
      generalize hF : putE _ _ _ _ _ _ _ = FF
      have hF2 : FF = { tmps := #[.agg B, .int .i64 v, .int .i64 ep, .int .u64 (dt : Int), .pointer (some ⟨g0, 0, none⟩), undef, undef, undef, .pointer (some ⟨g0 + 1, 0, none⟩), .bool false, .pointer (some ⟨g10, 0, none⟩), .pointer (some ⟨g11, 0, none⟩), undef, undef, undef, undef, undef, undef, undef, .agg (#[.int .u64 0, .int .u64 4, .int .u64 0, .int .u64 0]), .agg limW, .agg B, .pointer (some ⟨g11, 0, none⟩), .agg B, .bool true, .bool false, .bool false, .agg S, .agg limW, .int .i64 r, .bool true, .bool true, .bool true, undef, undef, undef, .bool true, .bool true, undef, undef, .bool true, .agg z21, undef, undef, undef, undef, undef, undef, undef, undef, undef, undef, undef, undef, undef, undef, undef, undef, undef, undef, undef, undef, undef, undef, undef, undef, undef, undef, undef, undef, undef, undef, undef, undef, undef, undef, undef, undef, undef, undef, undef], defers := [] } := by subst hF; kernel_rfl
      clear hF
      subst hF2
      go_wp2_with fail
      exact bodyPost_ret (res_row2 (p := 8) (u := 9) (ty := 42) rfl _ _ _ 42 z21 _ rfl P8 uCone rfl rfl) rfl ⟨by kernel_rfl, EE.out⟩
set_option maxHeartbeats 6400000 in
set_option maxRecDepth 100000 in
theorem rc_throughF3 (B S : Array Value) (v ep : Int) (dt : Nat) (r : Int) (W : World) (sB : B.size = 5) (oB : B.all (·.oneCell') = true) (sS : S.size = 5) (oS : S.all (·.oneCell') = true) (nb : Bool) (hB0 : B[0]? = some (.bool nb)) (hS : B.setIfInBounds 0 (.bool false) = S)
   (k1 : Hid (∀ w, Calls Try.prog 62 #[.agg B] w (Ret (.bool true) w))) (k2 : Hid (∀ w, Calls Try.prog 23 #[.agg S, .agg limW] w (Ret (.int .i64 r) w))) (hr : r < 0) (k3 : Hid (∀ w, Calls Try.prog 63 #[.int .i64 ep] w (Ret (.bool false) w))) :
   Calls Try.prog 36 #[.agg B, .int .i64 v, .int .i64 ep, .int .u64 (dt : Int)] W (Ret (.tuple #[.agg z21, .bool false]) W) := by
 have d1 : decide (0 ≤ r) = false := decide_eq_false (by omega)
 have P4 := (Blk.new W 25 B).alloc (.cells z21 42)
 have P8 := Blk.new (W.alloc (.cells B 25)) 42 z21
 rw [alloc_size] at P8
 have EE := hide ((ext_alloc W (.cells B 25)).trans (ext_alloc _ (.cells z21 42)))
 obtain ⟨W1, hW1⟩ : ∃ W1, ((W.alloc (.cells B 25)).alloc (.cells z21 42)) = W1 := ⟨_, rfl⟩
 obtain ⟨g0, hg⟩ : ∃ g, W.heap.size = g := ⟨_, rfl⟩
 rw [hW1] at P4 P8 EE
 rw [hg] at P4 P8
 have P4_lo : W.heap.size ≤ g0 := by omega
 have P8_lo : W.heap.size ≤ g0 + 1 := by omega
 have HW := hide hW1
 have Hg := hide hg
 clear hW1 hg
 go_enter Try.func36, Try.ntmps36
 go_upto_region 1 with fail
 unfold z21 at HW
 rw [HW.out, Hg.out]
 clear HW Hg
 have P4_lt := P4.lt
 have P8_lt := P8.lt
 refine wp_evs [.q, .q, .al, .st 2] [0, 0, 0, 0] (fun R => [.agg (#[.int .u64 0, .int .u64 4, .int .u64 0, .int .u64 0]), .agg limW, undef, undef]) (fun _ => (.cells z5 25 (0, 0))) (fun R _ => (.cells limW 25 (0, 0))) (fun _ => 0) (XE W) (fun _ => False) (by kernel_rfl) (by kernel_rfl) (by kernel_rfl) rfl (fun _ => rfl) (fun _ h => h.elim) (fun _ _ h => h) (by simp) (by simp) (fun R R' => ⟨fun _ => rfl, fun _ => rfl, fun _ => rfl, fun _ => rfl, trivial⟩) (fun _ _ _ _ => rfl) xe_below EE.out ?ops4 ?end4
 case ops4 =>
   refine ⟨?_, ?_, ?_, ?_, trivial⟩
   · refine er_q ?vn1 ?hn1 ?kn1 ?gn1 ?_
     case hn1 => exact rfl
     case vn1 => exact (fun R => .agg (#[.int .u64 0, .int .u64 4, .int .u64 0, .int .u64 0]))
     case kn1 => exact (fun R => rfl)
     case gn1 => exact gd_none rfl
     intro R s w' hT hs hw ha
     go_simp
   · refine er_q ?vn2 ?hn2 ?kn2 ?gn2 ?_
     case hn2 => exact rfl
     case vn2 => exact (fun R => .agg limW)
     case kn2 => exact (fun R => rfl)
     case gn2 => exact gd_none rfl
     intro R s w' hT hs hw ha
     unfold limW
     go_simp
   · refine er_al ?zn3 ?hn3 ?kn3 ?gn3 ?_
     case zn3 => exact (.cells z5 25 (0, 0))
     case hn3 => exact rfl
     case kn3 => exact rfl
     case gn3 => exact gd_none rfl
     intro ρ w'
     go_simp
     exact ⟨rfl, rfl⟩
   · refine er_st (j := 2) (Ty := ?Tn4) (p := ?pn4) (x := ?xn4) ?fn4 ?zn4 ?vn4 ?hn4 ?on4 ?kn4 ?ln4 ?gn4 ?en4 ?_
     case hn4 => exact rfl
     case on4 => exact rfl
     case fn4 => exact (fun R => (.cells limW 25 (0, 0)))
     case zn4 => exact (.cells z5 25 (0, 0))
     case vn4 => exact (fun R => .agg limW)
     case kn4 => exact (fun R => rfl)
     case ln4 => exact rfl
     case gn4 => exact gd_none rfl
     case en4 =>
       intro R
       kernel_rfl
     intro R s ρ w g hT hs hp hx hg hz
     exact ⟨store_row rfl hp hx hz iWide (rfl) (limW_one), fun w1 hF => ext_filled hT hF (Nat.le_trans EE.out.size hg)⟩
 case end4 =>
  intro sI R G w5 hI
  have hS := hI.same
  have hTT := hI.holds
  have hz0 := EE.out.size
  have P4 := P4.sameE hS (fun h => h) (by simp)
  have P8 := P8.sameE hS (fun h => h) (by simp)
  have P10 : Blk w5 (G 2) 25 limW := (hI.fulls 3 (List.mem_range.2 (show 3 < 4 by decide)) 2 rfl).2.2
  have hmP10 := (hI.made 2 (List.mem_range.2 (show 2 < 4 by decide)) rfl).1
  have P10_lo : W.heap.size ≤ G 2 := Nat.le_trans hz0 hmP10
  have ngP4_10 : g0 ≠ G 2 := by omega
  have ngP8_10 : g0 + 1 ≠ G 2 := by omega
  have EE := hide (show Ext _ _ from hTT)
  clear hS hz0 hTT hI
  generalize hF : putE _ _ _ _ _ _ _ = FF
  have hF2 : FF = { tmps := #[.agg B, .int .i64 v, .int .i64 ep, .int .u64 (dt : Int), .pointer (some ⟨g0, 0, none⟩), undef, undef, undef, .pointer (some ⟨g0 + 1, 0, none⟩), .bool false, .pointer (some ⟨G 2, 0, none⟩), undef, undef, undef, undef, undef, undef, undef, undef, .agg (#[.int .u64 0, .int .u64 4, .int .u64 0, .int .u64 0]), .agg limW, undef, undef, undef, undef, undef, undef, undef, undef, undef, undef, undef, undef, undef, undef, undef, undef, undef, undef, undef, undef, undef, undef, undef, undef, undef, undef, undef, undef, undef, undef, undef, undef, undef, undef, undef, undef, undef, undef, undef, undef, undef, undef, undef, undef, undef, undef, undef, undef, undef, undef, undef, undef, undef, undef, undef, undef, undef, undef, undef, undef], defers := [] } := by subst hF; kernel_rfl
  clear hF
  subst hF2
  generalize G 2 = g10 at *
  go_upto_region 2 with fail
  have P4_lt := P4.lt
  have P8_lt := P8.lt
  have P10_lt := P10.lt
  refine wp_evs [.q, .al, .st 1] [0, 0, 0] (fun R => [.agg B, undef, undef]) (fun _ => (.cells z5 25 (0, 0))) (fun R _ => (.cells B 25 (0, 0))) (fun _ => 0) (XE W) (fun _ => False) (by kernel_rfl) (by kernel_rfl) (by kernel_rfl) rfl (fun _ => rfl) (fun _ h => h.elim) (fun _ _ h => h) (by simp) (by simp) (fun R R' => ⟨fun _ => rfl, fun _ => rfl, fun _ => rfl, trivial⟩) (fun _ _ _ _ => rfl) xe_below EE.out ?ops8 ?end8
  case ops8 =>
    refine ⟨?_, ?_, ?_, trivial⟩
    · refine er_q ?vn6 ?hn6 ?kn6 ?gn6 ?_
      case hn6 => exact rfl
      case vn6 => exact (fun R => .agg B)
      case kn6 => exact (fun R => rfl)
      case gn6 => exact gd_none rfl
      intro R s w' hT hs hw ha
      have L := ld_all (P4.sameE hw (fun h => h) (by simp)) uWide rfl iWide sB
      generalize hA : putE _ _ _ _ _ _ _ = AA
      refine q_load rfl ?_ L
      subst hA
      kernel_rfl
    · refine er_al ?zn7 ?hn7 ?kn7 ?gn7 ?_
      case zn7 => exact (.cells z5 25 (0, 0))
      case hn7 => exact rfl
      case kn7 => exact rfl
      case gn7 => exact gd_none rfl
      intro ρ w'
      go_simp
      exact ⟨rfl, rfl⟩
    · refine er_st (j := 1) (Ty := ?Tn8) (p := ?pn8) (x := ?xn8) ?fn8 ?zn8 ?vn8 ?hn8 ?on8 ?kn8 ?ln8 ?gn8 ?en8 ?_
      case hn8 => exact rfl
      case on8 => exact rfl
      case fn8 => exact (fun R => (.cells B 25 (0, 0)))
      case zn8 => exact (.cells z5 25 (0, 0))
      case vn8 => exact (fun R => .agg B)
      case kn8 => exact (fun R => rfl)
      case ln8 => exact rfl
      case gn8 => exact gd_none rfl
      case en8 =>
        intro R
        kernel_rfl
      intro R s ρ w g hT hs hp hx hg hz
      exact ⟨store_row rfl hp hx hz iWide (sB) (oB), fun w1 hF => ext_filled hT hF (Nat.le_trans EE.out.size hg)⟩
  case end8 =>
   intro sI R G w9 hI
   have hS := hI.same
   have hTT := hI.holds
   have hz0 := EE.out.size
   have P4 := P4.sameE hS (fun h => h) (by simp)
   have P8 := P8.sameE hS (fun h => h) (by simp)
   have P10 := P10.sameE hS (fun h => h) (by simp)
   have P11 : Blk w9 (G 1) 25 B := (hI.fulls 2 (List.mem_range.2 (show 2 < 3 by decide)) 1 rfl).2.2
   have hmP11 := (hI.made 1 (List.mem_range.2 (show 1 < 3 by decide)) rfl).1
   have P11_lo : W.heap.size ≤ G 1 := Nat.le_trans hz0 hmP11
   have ngP4_11 : g0 ≠ G 1 := by omega
   have ngP8_11 : g0 + 1 ≠ G 1 := by omega
   have ngP10_11 : g10 ≠ G 1 := by omega
   have EE := hide (show Ext _ _ from hTT)
   clear hS hz0 hTT hI
   generalize hF : putE _ _ _ _ _ _ _ = FF
   have hF2 : FF = { tmps := #[.agg B, .int .i64 v, .int .i64 ep, .int .u64 (dt : Int), .pointer (some ⟨g0, 0, none⟩), undef, undef, undef, .pointer (some ⟨g0 + 1, 0, none⟩), .bool false, .pointer (some ⟨g10, 0, none⟩), .pointer (some ⟨G 1, 0, none⟩), undef, undef, undef, undef, undef, undef, undef, .agg (#[.int .u64 0, .int .u64 4, .int .u64 0, .int .u64 0]), .agg limW, .agg B, undef, undef, undef, undef, undef, undef, undef, undef, undef, undef, undef, undef, undef, undef, undef, undef, undef, undef, undef, undef, undef, undef, undef, undef, undef, undef, undef, undef, undef, undef, undef, undef, undef, undef, undef, undef, undef, undef, undef, undef, undef, undef, undef, undef, undef, undef, undef, undef, undef, undef, undef, undef, undef, undef, undef, undef, undef, undef, undef], defers := [] } := by subst hF; kernel_rfl
   clear hF
   subst hF2
   generalize G 1 = g11 at *
   go_upto_region 3 with fail
   have P4_lt := P4.lt
   have P8_lt := P8.lt
   have P10_lt := P10.lt
   have P11_lt := P11.lt
   refine wp_evs [.q, .so 0] [0, 0] (fun R => [.pointer (some ⟨g11, 0, none⟩), undef]) (fun _ => (.cells #[] 0 (0, 0))) (fun R _ => (.cells S 25 (0, 0))) (fun _ => g11) (XE W) (fun _ => False) (by kernel_rfl) (by kernel_rfl) (by kernel_rfl) rfl (fun _ => rfl) (fun _ h => h.elim) (fun _ _ h => h) (by intro c hc; simp at hc; (try subst hc); (try simp only); omega) (by intro c c' h1 h2 _; simp at h1 h2; omega) (fun R R' => ⟨fun _ => rfl, fun _ => rfl, trivial⟩) (fun _ _ _ _ => rfl) xe_below EE.out ?ops11 ?end11
   case ops11 =>
     refine ⟨?_, ?_, trivial⟩
     · refine er_q ?vn10 ?hn10 ?kn10 ?gn10 ?_
       case hn10 => exact rfl
       case vn10 => exact (fun R => .pointer (some ⟨g11, 0, none⟩))
       case kn10 => exact (fun R => rfl)
       case gn10 => exact gd_none rfl
       intro R s w' hT hs hw ha
       go_simp
     · refine er_so (c := 0) (Ty := ?Tn11) (p := ?pn11) (x := ?xn11) g11 ?fn11 ?un11 ?vn11 ?hn11 ?on11 ?kn11 ?ln11 ?gn11 ?dn11 ?en11 ?_
       case hn11 => exact rfl
       case on11 => exact rfl
       case fn11 => exact (fun R => (.cells S 25 (0, 0)))
       case un11 => exact (fun R => .pointer (some ⟨g11, 0, none⟩))
       case vn11 => exact (fun R => .bool false)
       case kn11 => exact (fun R => rfl)
       case ln11 => exact rfl
       case gn11 => exact gd_none rfl
       case dn11 =>
         intro R
         kernel_rfl
       case en11 =>
         intro R
         kernel_rfl
       intro R s ρ w hT hs hp hx hz
       have hB := (show Blk w g11 _ B from hz.trans P11)
       have hc := (hB.cell 0).trans (hB0)
       have hf := hB.frozen 0
       refine ⟨store_at (g := g11) (Ty := 4) rfl hp hx (hz.trans P11) (hS) ?_, fun w1 hF => ext_filled hT hF P11_lo⟩
       go_simp
   case end11 =>
    intro sI R G w12 hI
    have hS := hI.same
    have hTT := hI.holds
    have hz0 := EE.out.size
    have P4 := P4.sameE hS (fun h => h) (by intro c hc; simp at hc; (try subst hc); (try simp only); omega)
    have P8 := P8.sameE hS (fun h => h) (by intro c hc; simp at hc; (try subst hc); (try simp only); omega)
    have P10 := P10.sameE hS (fun h => h) (by intro c hc; simp at hc; (try subst hc); (try simp only); omega)
    have P11 : Blk w12 g11 25 S := hI.olds' 1 (List.mem_range.2 (show 1 < 2 by decide)) 0 rfl
    have EE := hide (show Ext _ _ from hTT)
    clear hS hz0 hTT hI
    generalize hF : putE _ _ _ _ _ _ _ = FF
    have hF2 : FF = { tmps := #[.agg B, .int .i64 v, .int .i64 ep, .int .u64 (dt : Int), .pointer (some ⟨g0, 0, none⟩), undef, undef, undef, .pointer (some ⟨g0 + 1, 0, none⟩), .bool false, .pointer (some ⟨g10, 0, none⟩), .pointer (some ⟨g11, 0, none⟩), undef, undef, undef, undef, undef, undef, undef, .agg (#[.int .u64 0, .int .u64 4, .int .u64 0, .int .u64 0]), .agg limW, .agg B, .pointer (some ⟨g11, 0, none⟩), undef, undef, undef, undef, undef, undef, undef, undef, undef, undef, undef, undef, undef, undef, undef, undef, undef, undef, undef, undef, undef, undef, undef, undef, undef, undef, undef, undef, undef, undef, undef, undef, undef, undef, undef, undef, undef, undef, undef, undef, undef, undef, undef, undef, undef, undef, undef, undef, undef, undef, undef, undef, undef, undef, undef, undef, undef, undef], defers := [] } := by subst hF; kernel_rfl
    clear hF
    subst hF2
    go_upto_region 4 with fail
    have P4_lt := P4.lt
    have P8_lt := P8.lt
    have P10_lt := P10.lt
    have P11_lt := P11.lt
    refine wp_evs [.q, .q, .q, .q, .q, .q, .q, .q, .q, .q, .q, .q, .q, .q, .q, .sk, .sk, .q] [0, 0, 0, 0, 0, 0, 0, 0, 0, 0, 0, 0, 0, 0, 0, 0, 0, 0] (fun R => [.agg B, .bool true, .bool false, .bool false, .agg S, .agg limW, .int .i64 r, .bool false, .bool false, .bool false, .int .i64 ep, .bool false, .bool true, .bool true, .bool true, undef, undef, .bool true]) (fun _ => (.cells #[] 0 (0, 0))) (fun R _ => (.cells #[] 0 (0, 0))) (fun _ => 0) (XE W) (fun _ => False) (by kernel_rfl) (by kernel_rfl) (by kernel_rfl) rfl (fun _ => rfl) (fun _ h => h.elim) (fun _ _ h => h) (by simp) (by simp) (fun R R' => ⟨fun _ => rfl, fun _ => rfl, fun _ => rfl, fun _ => rfl, fun _ => rfl, fun _ => rfl, fun _ => rfl, fun _ => rfl, fun _ => rfl, fun _ => rfl, fun _ => rfl, fun _ => rfl, fun _ => rfl, fun _ => rfl, fun _ => rfl, fun _ => rfl, fun _ => rfl, fun _ => rfl, trivial⟩) (fun _ _ _ _ => rfl) xe_below EE.out ?ops30 ?end30
    case ops30 =>
      refine ⟨?_, ?_, ?_, ?_, ?_, ?_, ?_, ?_, ?_, ?_, ?_, ?_, ?_, ?_, ?_, ?_, ?_, ?_, trivial⟩
      · refine er_q ?vn13 ?hn13 ?kn13 ?gn13 ?_
        case hn13 => exact rfl
        case vn13 => exact (fun R => .agg B)
        case kn13 => exact (fun R => rfl)
        case gn13 => exact gd_none rfl
        intro R s w' hT hs hw ha
        have L := ld_all (P4.sameE hw (fun h => h) (by simp)) uWide rfl iWide sB
        generalize hA : putE _ _ _ _ _ _ _ = AA
        refine q_load rfl ?_ L
        subst hA
        kernel_rfl
      · refine er_q ?vn14 ?hn14 ?kn14 ?gn14 ?_
        case hn14 => exact rfl
        case vn14 => exact (fun R => .bool true)
        case kn14 => exact (fun R => rfl)
        case gn14 => exact gd_none rfl
        intro R s w' hT hs hw ha
        go_simp
        exact k1.out w'
      · refine er_q ?vn15 ?hn15 ?kn15 ?gn15 ?_
        case hn15 => exact rfl
        case vn15 => exact (fun R => .bool false)
        case kn15 => exact (fun R => rfl)
        case gn15 => exact gd_none rfl
        intro R s w' hT hs hw ha
        go_simp
      · refine er_q ?vn16 ?hn16 ?kn16 ?gn16 ?_
        case hn16 => exact rfl
        case vn16 => exact (fun R => .bool false)
        case kn16 => exact (fun R => rfl)
        case gn16 => exact gd_none rfl
        intro R s w' hT hs hw ha
        go_simp
      · refine er_q ?vn17 ?hn17 ?kn17 ?gn17 ?_
        case hn17 => exact rfl
        case vn17 => exact (fun R => .agg S)
        case kn17 => exact (fun R => rfl)
        case gn17 => (refine gd_some rfl ?_; intro R; kernel_rfl)
        intro R s w' hT hs hw ha
        have L := ld_all (P11.sameE hw (fun h => h) (by simp)) uWide rfl iWide sS
        generalize hA : putE _ _ _ _ _ _ _ = AA
        refine q_load rfl ?_ L
        subst hA
        kernel_rfl
      · refine er_q ?vn18 ?hn18 ?kn18 ?gn18 ?_
        case hn18 => exact rfl
        case vn18 => exact (fun R => .agg limW)
        case kn18 => exact (fun R => rfl)
        case gn18 => (refine gd_some rfl ?_; intro R; kernel_rfl)
        intro R s w' hT hs hw ha
        have L := ld_all (P10.sameE hw (fun h => h) (by simp)) uWide rfl iWide rfl
        generalize hA : putE _ _ _ _ _ _ _ = AA
        refine q_load rfl ?_ L
        subst hA
        kernel_rfl
      · refine er_q ?vn19 ?hn19 ?kn19 ?gn19 ?_
        case hn19 => exact rfl
        case vn19 => exact (fun R => .int .i64 r)
        case kn19 => exact (fun R => rfl)
        case gn19 => (refine gd_some rfl ?_; intro R; kernel_rfl)
        intro R s w' hT hs hw ha
        go_simp
        exact k2.out w'
      · refine er_q ?vn20 ?hn20 ?kn20 ?gn20 ?_
        case hn20 => exact rfl
        case vn20 => exact (fun R => .bool false)
        case kn20 => exact (fun R => rfl)
        case gn20 => (refine gd_some rfl ?_; intro R; kernel_rfl)
        intro R s w' hT hs hw ha
        go_simp
      · refine er_q ?vn21 ?hn21 ?kn21 ?gn21 ?_
        case hn21 => exact rfl
        case vn21 => exact (fun R => .bool false)
        case kn21 => exact (fun R => rfl)
        case gn21 => exact gd_none rfl
        intro R s w' hT hs hw ha
        go_simp
      · refine er_q ?vn22 ?hn22 ?kn22 ?gn22 ?_
        case hn22 => exact rfl
        case vn22 => exact (fun R => .bool false)
        case kn22 => exact (fun R => rfl)
        case gn22 => exact gd_none rfl
        intro R s w' hT hs hw ha
        go_simp
      · refine er_q ?vn23 ?hn23 ?kn23 ?gn23 ?_
        case hn23 => exact rfl
        case vn23 => exact (fun R => .int .i64 ep)
        case kn23 => exact (fun R => rfl)
        case gn23 => (refine gd_some rfl ?_; intro R; kernel_rfl)
        intro R s w' hT hs hw ha
        go_simp
      · refine er_q ?vn24 ?hn24 ?kn24 ?gn24 ?_
        case hn24 => exact rfl
        case vn24 => exact (fun R => .bool false)
        case kn24 => exact (fun R => rfl)
        case gn24 => (refine gd_some rfl ?_; intro R; kernel_rfl)
        intro R s w' hT hs hw ha
        go_simp
        exact k3.out w'
      · refine er_q ?vn25 ?hn25 ?kn25 ?gn25 ?_
        case hn25 => exact rfl
        case vn25 => exact (fun R => .bool true)
        case kn25 => exact (fun R => rfl)
        case gn25 => (refine gd_some rfl ?_; intro R; kernel_rfl)
        intro R s w' hT hs hw ha
        go_simp
      · refine er_q ?vn26 ?hn26 ?kn26 ?gn26 ?_
        case hn26 => exact rfl
        case vn26 => exact (fun R => .bool true)
        case kn26 => exact (fun R => rfl)
        case gn26 => exact gd_none rfl
        intro R s w' hT hs hw ha
        go_simp
      · refine er_q ?vn27 ?hn27 ?kn27 ?gn27 ?_
        case hn27 => exact rfl
        case vn27 => exact (fun R => .bool true)
        case kn27 => exact (fun R => rfl)
        case gn27 => exact gd_none rfl
        intro R s w' hT hs hw ha
        go_simp
      · refine er_sk ?hn28 ?gn28
        case hn28 => exact rfl
        case gn28 => (refine gd_some rfl ?_; intro R; kernel_rfl)
      · refine er_sk ?hn29 ?gn29
        case hn29 => exact rfl
        case gn29 => (refine gd_some rfl ?_; intro R; kernel_rfl)
      · refine er_q ?vn30 ?hn30 ?kn30 ?gn30 ?_
        case hn30 => exact rfl
        case vn30 => exact (fun R => .bool true)
        case kn30 => exact (fun R => rfl)
        case gn30 => exact gd_none rfl
        intro R s w' hT hs hw ha
        go_simp
    case end30 =>
     intro sI R G w31 hI
     have hS := hI.same
     have hTT := hI.holds
     have hz0 := EE.out.size
     have P4 := P4.sameE hS (fun h => h) (by simp)
     have P8 := P8.sameE hS (fun h => h) (by simp)
     have P10 := P10.sameE hS (fun h => h) (by simp)
     have P11 := P11.sameE hS (fun h => h) (by simp)
     have EE := hide (show Ext _ _ from hTT)
     clear hS hz0 hTT hI
     generalize hF : putE _ _ _ _ _ _ _ = FF
     have hF2 : FF = { tmps := #[.agg B, .int .i64 v, .int .i64 ep, .int .u64 (dt : Int), .pointer (some ⟨g0, 0, none⟩), undef, undef, undef, .pointer (some ⟨g0 + 1, 0, none⟩), .bool false, .pointer (some ⟨g10, 0, none⟩), .pointer (some ⟨g11, 0, none⟩), undef, undef, undef, undef, undef, undef, undef, .agg (#[.int .u64 0, .int .u64 4, .int .u64 0, .int .u64 0]), .agg limW, .agg B, .pointer (some ⟨g11, 0, none⟩), .agg B, .bool true, .bool false, .bool false, .agg S, .agg limW, .int .i64 r, .bool false, .bool false, .bool false, .int .i64 ep, .bool false, .bool true, .bool true, .bool true, undef, undef, .bool true, undef, undef, undef, undef, undef, undef, undef, undef, undef, undef, undef, undef, undef, undef, undef, undef, undef, undef, undef, undef, undef, undef, undef, undef, undef, undef, undef, undef, undef, undef, undef, undef, undef, undef, undef, undef, undef, undef, undef, undef], defers := [] } := by subst hF; kernel_rfl
     clear hF
     subst hF2
     go_upto_region 5 with fail
     have P4_lt := P4.lt
     have P8_lt := P8.lt
     have P10_lt := P10.lt
     have P11_lt := P11.lt
     refine wp_evs [.q, .so 0, .q] [0, 0, 0] (fun R => [.agg z21, undef, .bool false]) (fun _ => (.cells #[] 0 (0, 0))) (fun R _ => (.cells z21 42 (0, 0))) (fun _ => g0 + 1) (XE W) (fun _ => False) (by kernel_rfl) (by kernel_rfl) (by kernel_rfl) rfl (fun _ => rfl) (fun _ h => h.elim) (fun _ _ h => h) (by intro c hc; simp at hc; (try subst hc); (try simp only); omega) (by intro c c' h1 h2 _; simp at h1 h2; omega) (fun R R' => ⟨fun _ => rfl, fun _ => rfl, fun _ => rfl, trivial⟩) (fun _ _ _ _ => rfl) xe_below EE.out ?ops34 ?end34
     case ops34 =>
       refine ⟨?_, ?_, ?_, trivial⟩
       · refine er_q ?vn32 ?hn32 ?kn32 ?gn32 ?_
         case hn32 => exact rfl
         case vn32 => exact (fun R => .agg z21)
         case kn32 => exact (fun R => rfl)
         case gn32 => exact gd_none rfl
         intro R s w' hT hs hw ha
         unfold z21
         go_simp
       · refine er_so (c := 0) (Ty := ?Tn33) (p := ?pn33) (x := ?xn33) (g0 + 1) ?fn33 ?un33 ?vn33 ?hn33 ?on33 ?kn33 ?ln33 ?gn33 ?dn33 ?en33 ?_
         case hn33 => exact rfl
         case on33 => exact rfl
         case fn33 => exact (fun R => (.cells z21 42 (0, 0)))
         case un33 => exact (fun R => .pointer (some ⟨g0 + 1, 0, none⟩))
         case vn33 => exact (fun R => .agg z21)
         case kn33 => exact (fun R => rfl)
         case ln33 => exact rfl
         case gn33 => exact gd_none rfl
         case dn33 =>
           intro R
           kernel_rfl
         case en33 =>
           intro R
           kernel_rfl
         intro R s ρ w hT hs hp hx hz
         refine ⟨store_rowN (g := (g0 + 1)) rfl hp hx (hz.trans P8) iCone (rfl) (rfl) (z21_one), fun w1 hF => ext_filled hT hF P8_lo⟩
       · refine er_q ?vn34 ?hn34 ?kn34 ?gn34 ?_
         case hn34 => exact rfl
         case vn34 => exact (fun R => .bool false)
         case kn34 => exact (fun R => rfl)
         case gn34 => exact gd_none rfl
         intro R s w' hT hs hw ha
         go_simp
     case end34 =>
      intro sI R G w35 hI
      have hS := hI.same
      have hTT := hI.holds
      have hz0 := EE.out.size
      have P4 := P4.sameE hS (fun h => h) (by intro c hc; simp at hc; (try subst hc); (try simp only); omega)
      have P10 := P10.sameE hS (fun h => h) (by intro c hc; simp at hc; (try subst hc); (try simp only); omega)
      have P11 := P11.sameE hS (fun h => h) (by intro c hc; simp at hc; (try subst hc); (try simp only); omega)
      have P8 : Blk w35 (g0 + 1) 42 z21 := hI.olds' 1 (List.mem_range.2 (show 1 < 3 by decide)) 0 rfl
      have EE := hide (show Ext _ _ from hTT)
      clear hS hz0 hTT hI
      generalize hF : putE _ _ _ _ _ _ _ = FF
      have hF2 : FF = { tmps := #[.agg B, .int .i64 v, .int .i64 ep, .int .u64 (dt : Int), .pointer (some ⟨g0, 0, none⟩), undef, undef, undef, .pointer (some ⟨g0 + 1, 0, none⟩), .bool false, .pointer (some ⟨g10, 0, none⟩), .pointer (some ⟨g11, 0, none⟩), undef, undef, undef, undef, undef, undef, undef, .agg (#[.int .u64 0, .int .u64 4, .int .u64 0, .int .u64 0]), .agg limW, .agg B, .pointer (some ⟨g11, 0, none⟩), .agg B, .bool true, .bool false, .bool false, .agg S, .agg limW, .int .i64 r, .bool false, .bool false, .bool false, .int .i64 ep, .bool false, .bool true, .bool true, .bool true, undef, undef, .bool true, .agg z21, undef, undef, undef, undef, undef, undef, undef, undef, undef, undef, undef, undef, undef, undef, undef, undef, undef, undef, undef, undef, undef, undef, undef, undef, undef, undef, undef, undef, undef, undef, undef, undef, undef, undef, undef, undef, undef, undef, undef], defers := [] } := by subst hF; kernel_rfl
      clear hF
      subst hF2
      go_wp2_with fail
      exact bodyPost_ret (res_row2 (p := 8) (u := 9) (ty := 42) rfl _ _ _ 42 z21 _ rfl P8 uCone rfl rfl) rfl ⟨by kernel_rfl, EE.out⟩
set_option maxHeartbeats 6400000 in
set_option maxRecDepth 100000 in
theorem rc_throughF4 (B S : Array Value) (v ep : Int) (dt : Nat) (r : Int) (W : World) (sB : B.size = 5) (oB : B.all (·.oneCell') = true) (sS : S.size = 5) (oS : S.all (·.oneCell') = true) (nb : Bool) (hB0 : B[0]? = some (.bool nb)) (hS : B.setIfInBounds 0 (.bool false) = S)
   (k1 : Hid (∀ w, Calls Try.prog 62 #[.agg B] w (Ret (.bool true) w))) (k2 : Hid (∀ w, Calls Try.prog 23 #[.agg S, .agg limW] w (Ret (.int .i64 r) w))) (hr : r < 0) (k3 : Hid (∀ w, Calls Try.prog 63 #[.int .i64 ep] w (Ret (.bool true) w))) :
   Calls Try.prog 36 #[.agg B, .int .i64 v, .int .i64 ep, .int .u64 0] W (Ret (.tuple #[.agg z21, .bool false]) W) := by
 have d1 : decide (0 ≤ r) = false := decide_eq_false (by omega)
 have P4 := (Blk.new W 25 B).alloc (.cells z21 42)
 have P8 := Blk.new (W.alloc (.cells B 25)) 42 z21
 rw [alloc_size] at P8
 have EE := hide ((ext_alloc W (.cells B 25)).trans (ext_alloc _ (.cells z21 42)))
 obtain ⟨W1, hW1⟩ : ∃ W1, ((W.alloc (.cells B 25)).alloc (.cells z21 42)) = W1 := ⟨_, rfl⟩
 obtain ⟨g0, hg⟩ : ∃ g, W.heap.size = g := ⟨_, rfl⟩
 rw [hW1] at P4 P8 EE
 rw [hg] at P4 P8
 have P4_lo : W.heap.size ≤ g0 := by omega
 have P8_lo : W.heap.size ≤ g0 + 1 := by omega
 have HW := hide hW1
 have Hg := hide hg
 clear hW1 hg
 go_enter Try.func36, Try.ntmps36
 go_upto_region 1 with fail
 unfold z21 at HW
 rw [HW.out, Hg.out]
 clear HW Hg
 have P4_lt := P4.lt
 have P8_lt := P8.lt
 refine wp_evs [.q, .q, .al, .st 2] [0, 0, 0, 0] (fun R => [.agg (#[.int .u64 0, .int .u64 4, .int .u64 0, .int .u64 0]), .agg limW, undef, undef]) (fun _ => (.cells z5 25 (0, 0))) (fun R _ => (.cells limW 25 (0, 0))) (fun _ => 0) (XE W) (fun _ => False) (by kernel_rfl) (by kernel_rfl) (by kernel_rfl) rfl (fun _ => rfl) (fun _ h => h.elim) (fun _ _ h => h) (by simp) (by simp) (fun R R' => ⟨fun _ => rfl, fun _ => rfl, fun _ => rfl, fun _ => rfl, trivial⟩) (fun _ _ _ _ => rfl) xe_below EE.out ?ops4 ?end4
 case ops4 =>
   refine ⟨?_, ?_, ?_, ?_, trivial⟩
   · refine er_q ?vn1 ?hn1 ?kn1 ?gn1 ?_
     case hn1 => exact rfl
     case vn1 => exact (fun R => .agg (#[.int .u64 0, .int .u64 4, .int .u64 0, .int .u64 0]))
     case kn1 => exact (fun R => rfl)
     case gn1 => exact gd_none rfl
     intro R s w' hT hs hw ha
     go_simp
   · refine er_q ?vn2 ?hn2 ?kn2 ?gn2 ?_
     case hn2 => exact rfl
     case vn2 => exact (fun R => .agg limW)
     case kn2 => exact (fun R => rfl)
     case gn2 => exact gd_none rfl
     intro R s w' hT hs hw ha
     unfold limW
     go_simp
   · refine er_al ?zn3 ?hn3 ?kn3 ?gn3 ?_
     case zn3 => exact (.cells z5 25 (0, 0))
     case hn3 => exact rfl
     case kn3 => exact rfl
     case gn3 => exact gd_none rfl
     intro ρ w'
     go_simp
     exact ⟨rfl, rfl⟩
   · refine er_st (j := 2) (Ty := ?Tn4) (p := ?pn4) (x := ?xn4) ?fn4 ?zn4 ?vn4 ?hn4 ?on4 ?kn4 ?ln4 ?gn4 ?en4 ?_
     case hn4 => exact rfl
     case on4 => exact rfl
     case fn4 => exact (fun R => (.cells limW 25 (0, 0)))
     case zn4 => exact (.cells z5 25 (0, 0))
     case vn4 => exact (fun R => .agg limW)
     case kn4 => exact (fun R => rfl)
     case ln4 => exact rfl
     case gn4 => exact gd_none rfl
     case en4 =>
       intro R
       kernel_rfl
     intro R s ρ w g hT hs hp hx hg hz
     exact ⟨store_row rfl hp hx hz iWide (rfl) (limW_one), fun w1 hF => ext_filled hT hF (Nat.le_trans EE.out.size hg)⟩
 case end4 =>
  intro sI R G w5 hI
  have hS := hI.same
  have hTT := hI.holds
  have hz0 := EE.out.size
  have P4 := P4.sameE hS (fun h => h) (by simp)
  have P8 := P8.sameE hS (fun h => h) (by simp)
  have P10 : Blk w5 (G 2) 25 limW := (hI.fulls 3 (List.mem_range.2 (show 3 < 4 by decide)) 2 rfl).2.2
  have hmP10 := (hI.made 2 (List.mem_range.2 (show 2 < 4 by decide)) rfl).1
  have P10_lo : W.heap.size ≤ G 2 := Nat.le_trans hz0 hmP10
  have ngP4_10 : g0 ≠ G 2 := by omega
  have ngP8_10 : g0 + 1 ≠ G 2 := by omega
  have EE := hide (show Ext _ _ from hTT)
  clear hS hz0 hTT hI
  generalize hF : putE _ _ _ _ _ _ _ = FF
  have hF2 : FF = { tmps := #[.agg B, .int .i64 v, .int .i64 ep, .int .u64 0, .pointer (some ⟨g0, 0, none⟩), undef, undef, undef, .pointer (some ⟨g0 + 1, 0, none⟩), .bool false, .pointer (some ⟨G 2, 0, none⟩), undef, undef, undef, undef, undef, undef, undef, undef, .agg (#[.int .u64 0, .int .u64 4, .int .u64 0, .int .u64 0]), .agg limW, undef, undef, undef, undef, undef, undef, undef, undef, undef, undef, undef, undef, undef, undef, undef, undef, undef, undef, undef, undef, undef, undef, undef, undef, undef, undef, undef, undef, undef, undef, undef, undef, undef, undef, undef, undef, undef, undef, undef, undef, undef, undef, undef, undef, undef, undef, undef, undef, undef, undef, undef, undef, undef, undef, undef, undef, undef, undef, undef, undef], defers := [] } := by subst hF; kernel_rfl
  clear hF
  subst hF2
  generalize G 2 = g10 at *
  go_upto_region 2 with fail
  have P4_lt := P4.lt
  have P8_lt := P8.lt
  have P10_lt := P10.lt
  refine wp_evs [.q, .al, .st 1] [0, 0, 0] (fun R => [.agg B, undef, undef]) (fun _ => (.cells z5 25 (0, 0))) (fun R _ => (.cells B 25 (0, 0))) (fun _ => 0) (XE W) (fun _ => False) (by kernel_rfl) (by kernel_rfl) (by kernel_rfl) rfl (fun _ => rfl) (fun _ h => h.elim) (fun _ _ h => h) (by simp) (by simp) (fun R R' => ⟨fun _ => rfl, fun _ => rfl, fun _ => rfl, trivial⟩) (fun _ _ _ _ => rfl) xe_below EE.out ?ops8 ?end8
  case ops8 =>
    refine ⟨?_, ?_, ?_, trivial⟩
    · refine er_q ?vn6 ?hn6 ?kn6 ?gn6 ?_
      case hn6 => exact rfl
      case vn6 => exact (fun R => .agg B)
      case kn6 => exact (fun R => rfl)
      case gn6 => exact gd_none rfl
      intro R s w' hT hs hw ha
      have L := ld_all (P4.sameE hw (fun h => h) (by simp)) uWide rfl iWide sB
      generalize hA : putE _ _ _ _ _ _ _ = AA
      refine q_load rfl ?_ L
      subst hA
      kernel_rfl
    · refine er_al ?zn7 ?hn7 ?kn7 ?gn7 ?_
      case zn7 => exact (.cells z5 25 (0, 0))
      case hn7 => exact rfl
      case kn7 => exact rfl
      case gn7 => exact gd_none rfl
      intro ρ w'
      go_simp
      exact ⟨rfl, rfl⟩
    · refine er_st (j := 1) (Ty := ?Tn8) (p := ?pn8) (x := ?xn8) ?fn8 ?zn8 ?vn8 ?hn8 ?on8 ?kn8 ?ln8 ?gn8 ?en8 ?_
      case hn8 => exact rfl
      case on8 => exact rfl
      case fn8 => exact (fun R => (.cells B 25 (0, 0)))
      case zn8 => exact (.cells z5 25 (0, 0))
      case vn8 => exact (fun R => .agg B)
      case kn8 => exact (fun R => rfl)
      case ln8 => exact rfl
      case gn8 => exact gd_none rfl
      case en8 =>
        intro R
        kernel_rfl
      intro R s ρ w g hT hs hp hx hg hz
      exact ⟨store_row rfl hp hx hz iWide (sB) (oB), fun w1 hF => ext_filled hT hF (Nat.le_trans EE.out.size hg)⟩
  case end8 =>
   intro sI R G w9 hI
   have hS := hI.same
   have hTT := hI.holds
   have hz0 := EE.out.size
   have P4 := P4.sameE hS (fun h => h) (by simp)
   have P8 := P8.sameE hS (fun h => h) (by simp)
   have P10 := P10.sameE hS (fun h => h) (by simp)
   have P11 : Blk w9 (G 1) 25 B := (hI.fulls 2 (List.mem_range.2 (show 2 < 3 by decide)) 1 rfl).2.2
   have hmP11 := (hI.made 1 (List.mem_range.2 (show 1 < 3 by decide)) rfl).1
   have P11_lo : W.heap.size ≤ G 1 := Nat.le_trans hz0 hmP11
   have ngP4_11 : g0 ≠ G 1 := by omega
   have ngP8_11 : g0 + 1 ≠ G 1 := by omega
   have ngP10_11 : g10 ≠ G 1 := by omega
   have EE := hide (show Ext _ _ from hTT)
   clear hS hz0 hTT hI
   generalize hF : putE _ _ _ _ _ _ _ = FF
   have hF2 : FF = { tmps := #[.agg B, .int .i64 v, .int .i64 ep, .int .u64 0, .pointer (some ⟨g0, 0, none⟩), undef, undef, undef, .pointer (some ⟨g0 + 1, 0, none⟩), .bool false, .pointer (some ⟨g10, 0, none⟩), .pointer (some ⟨G 1, 0, none⟩), undef, undef, undef, undef, undef, undef, undef, .agg (#[.int .u64 0, .int .u64 4, .int .u64 0, .int .u64 0]), .agg limW, .agg B, undef, undef, undef, undef, undef, undef, undef, undef, undef, undef, undef, undef, undef, undef, undef, undef, undef, undef, undef, undef, undef, undef, undef, undef, undef, undef, undef, undef, undef, undef, undef, undef, undef, undef, undef, undef, undef, undef, undef, undef, undef, undef, undef, undef, undef, undef, undef, undef, undef, undef, undef, undef, undef, undef, undef, undef, undef, undef, undef], defers := [] } := by subst hF; kernel_rfl
   clear hF
   subst hF2
   generalize G 1 = g11 at *
   go_upto_region 3 with fail
   have P4_lt := P4.lt
   have P8_lt := P8.lt
   have P10_lt := P10.lt
   have P11_lt := P11.lt
   refine wp_evs [.q, .so 0] [0, 0] (fun R => [.pointer (some ⟨g11, 0, none⟩), undef]) (fun _ => (.cells #[] 0 (0, 0))) (fun R _ => (.cells S 25 (0, 0))) (fun _ => g11) (XE W) (fun _ => False) (by kernel_rfl) (by kernel_rfl) (by kernel_rfl) rfl (fun _ => rfl) (fun _ h => h.elim) (fun _ _ h => h) (by intro c hc; simp at hc; (try subst hc); (try simp only); omega) (by intro c c' h1 h2 _; simp at h1 h2; omega) (fun R R' => ⟨fun _ => rfl, fun _ => rfl, trivial⟩) (fun _ _ _ _ => rfl) xe_below EE.out ?ops11 ?end11
   case ops11 =>
     refine ⟨?_, ?_, trivial⟩
     · refine er_q ?vn10 ?hn10 ?kn10 ?gn10 ?_
       case hn10 => exact rfl
       case vn10 => exact (fun R => .pointer (some ⟨g11, 0, none⟩))
       case kn10 => exact (fun R => rfl)
       case gn10 => exact gd_none rfl
       intro R s w' hT hs hw ha
       go_simp
     · refine er_so (c := 0) (Ty := ?Tn11) (p := ?pn11) (x := ?xn11) g11 ?fn11 ?un11 ?vn11 ?hn11 ?on11 ?kn11 ?ln11 ?gn11 ?dn11 ?en11 ?_
       case hn11 => exact rfl
       case on11 => exact rfl
       case fn11 => exact (fun R => (.cells S 25 (0, 0)))
       case un11 => exact (fun R => .pointer (some ⟨g11, 0, none⟩))
       case vn11 => exact (fun R => .bool false)
       case kn11 => exact (fun R => rfl)
       case ln11 => exact rfl
       case gn11 => exact gd_none rfl
       case dn11 =>
         intro R
         kernel_rfl
       case en11 =>
         intro R
         kernel_rfl
       intro R s ρ w hT hs hp hx hz
       have hB := (show Blk w g11 _ B from hz.trans P11)
       have hc := (hB.cell 0).trans (hB0)
       have hf := hB.frozen 0
       refine ⟨store_at (g := g11) (Ty := 4) rfl hp hx (hz.trans P11) (hS) ?_, fun w1 hF => ext_filled hT hF P11_lo⟩
       go_simp
   case end11 =>
    intro sI R G w12 hI
    have hS := hI.same
    have hTT := hI.holds
    have hz0 := EE.out.size
    have P4 := P4.sameE hS (fun h => h) (by intro c hc; simp at hc; (try subst hc); (try simp only); omega)
    have P8 := P8.sameE hS (fun h => h) (by intro c hc; simp at hc; (try subst hc); (try simp only); omega)
    have P10 := P10.sameE hS (fun h => h) (by intro c hc; simp at hc; (try subst hc); (try simp only); omega)
    have P11 : Blk w12 g11 25 S := hI.olds' 1 (List.mem_range.2 (show 1 < 2 by decide)) 0 rfl
    have EE := hide (show Ext _ _ from hTT)
    clear hS hz0 hTT hI
    generalize hF : putE _ _ _ _ _ _ _ = FF
    have hF2 : FF = { tmps := #[.agg B, .int .i64 v, .int .i64 ep, .int .u64 0, .pointer (some ⟨g0, 0, none⟩), undef, undef, undef, .pointer (some ⟨g0 + 1, 0, none⟩), .bool false, .pointer (some ⟨g10, 0, none⟩), .pointer (some ⟨g11, 0, none⟩), undef, undef, undef, undef, undef, undef, undef, .agg (#[.int .u64 0, .int .u64 4, .int .u64 0, .int .u64 0]), .agg limW, .agg B, .pointer (some ⟨g11, 0, none⟩), undef, undef, undef, undef, undef, undef, undef, undef, undef, undef, undef, undef, undef, undef, undef, undef, undef, undef, undef, undef, undef, undef, undef, undef, undef, undef, undef, undef, undef, undef, undef, undef, undef, undef, undef, undef, undef, undef, undef, undef, undef, undef, undef, undef, undef, undef, undef, undef, undef, undef, undef, undef, undef, undef, undef, undef, undef, undef], defers := [] } := by subst hF; kernel_rfl
    clear hF
    subst hF2
    go_upto_region 4 with fail
    have P4_lt := P4.lt
    have P8_lt := P8.lt
    have P10_lt := P10.lt
    have P11_lt := P11.lt
    refine wp_evs [.q, .q, .q, .q, .q, .q, .q, .q, .q, .q, .q, .q, .q, .q, .q, .q, .q, .q] [0, 0, 0, 0, 0, 0, 0, 0, 0, 0, 0, 0, 0, 0, 0, 0, 0, 0] (fun R => [.agg B, .bool true, .bool false, .bool false, .agg S, .agg limW, .int .i64 r, .bool false, .bool false, .bool false, .int .i64 ep, .bool true, .bool false, .bool false, .bool false, .int .u64 0, .bool true, .bool true]) (fun _ => (.cells #[] 0 (0, 0))) (fun R _ => (.cells #[] 0 (0, 0))) (fun _ => 0) (XE W) (fun _ => False) (by kernel_rfl) (by kernel_rfl) (by kernel_rfl) rfl (fun _ => rfl) (fun _ h => h.elim) (fun _ _ h => h) (by simp) (by simp) (fun R R' => ⟨fun _ => rfl, fun _ => rfl, fun _ => rfl, fun _ => rfl, fun _ => rfl, fun _ => rfl, fun _ => rfl, fun _ => rfl, fun _ => rfl, fun _ => rfl, fun _ => rfl, fun _ => rfl, fun _ => rfl, fun _ => rfl, fun _ => rfl, fun _ => rfl, fun _ => rfl, fun _ => rfl, trivial⟩) (fun _ _ _ _ => rfl) xe_below EE.out ?ops30 ?end30
    case ops30 =>
      refine ⟨?_, ?_, ?_, ?_, ?_, ?_, ?_, ?_, ?_, ?_, ?_, ?_, ?_, ?_, ?_, ?_, ?_, ?_, trivial⟩
      · refine er_q ?vn13 ?hn13 ?kn13 ?gn13 ?_
        case hn13 => exact rfl
        case vn13 => exact (fun R => .agg B)
        case kn13 => exact (fun R => rfl)
        case gn13 => exact gd_none rfl
        intro R s w' hT hs hw ha
        have L := ld_all (P4.sameE hw (fun h => h) (by simp)) uWide rfl iWide sB
        generalize hA : putE _ _ _ _ _ _ _ = AA
        refine q_load rfl ?_ L
        subst hA
        kernel_rfl
      · refine er_q ?vn14 ?hn14 ?kn14 ?gn14 ?_
        case hn14 => exact rfl
        case vn14 => exact (fun R => .bool true)
        case kn14 => exact (fun R => rfl)
        case gn14 => exact gd_none rfl
        intro R s w' hT hs hw ha
        go_simp
        exact k1.out w'
      · refine er_q ?vn15 ?hn15 ?kn15 ?gn15 ?_
        case hn15 => exact rfl
        case vn15 => exact (fun R => .bool false)
        case kn15 => exact (fun R => rfl)
        case gn15 => exact gd_none rfl
        intro R s w' hT hs hw ha
        go_simp
      · refine er_q ?vn16 ?hn16 ?kn16 ?gn16 ?_
        case hn16 => exact rfl
        case vn16 => exact (fun R => .bool false)
        case kn16 => exact (fun R => rfl)
        case gn16 => exact gd_none rfl
        intro R s w' hT hs hw ha
        go_simp
      · refine er_q ?vn17 ?hn17 ?kn17 ?gn17 ?_
        case hn17 => exact rfl
        case vn17 => exact (fun R => .agg S)
        case kn17 => exact (fun R => rfl)
        case gn17 => (refine gd_some rfl ?_; intro R; kernel_rfl)
        intro R s w' hT hs hw ha
        have L := ld_all (P11.sameE hw (fun h => h) (by simp)) uWide rfl iWide sS
        generalize hA : putE _ _ _ _ _ _ _ = AA
        refine q_load rfl ?_ L
        subst hA
        kernel_rfl
      · refine er_q ?vn18 ?hn18 ?kn18 ?gn18 ?_
        case hn18 => exact rfl
        case vn18 => exact (fun R => .agg limW)
        case kn18 => exact (fun R => rfl)
        case gn18 => (refine gd_some rfl ?_; intro R; kernel_rfl)
        intro R s w' hT hs hw ha
        have L := ld_all (P10.sameE hw (fun h => h) (by simp)) uWide rfl iWide rfl
        generalize hA : putE _ _ _ _ _ _ _ = AA
        refine q_load rfl ?_ L
        subst hA
        kernel_rfl
      · refine er_q ?vn19 ?hn19 ?kn19 ?gn19 ?_
        case hn19 => exact rfl
        case vn19 => exact (fun R => .int .i64 r)
        case kn19 => exact (fun R => rfl)
        case gn19 => (refine gd_some rfl ?_; intro R; kernel_rfl)
        intro R s w' hT hs hw ha
        go_simp
        exact k2.out w'
      · refine er_q ?vn20 ?hn20 ?kn20 ?gn20 ?_
        case hn20 => exact rfl
        case vn20 => exact (fun R => .bool false)
        case kn20 => exact (fun R => rfl)
        case gn20 => (refine gd_some rfl ?_; intro R; kernel_rfl)
        intro R s w' hT hs hw ha
        go_simp
      · refine er_q ?vn21 ?hn21 ?kn21 ?gn21 ?_
        case hn21 => exact rfl
        case vn21 => exact (fun R => .bool false)
        case kn21 => exact (fun R => rfl)
        case gn21 => exact gd_none rfl
        intro R s w' hT hs hw ha
        go_simp
      · refine er_q ?vn22 ?hn22 ?kn22 ?gn22 ?_
        case hn22 => exact rfl
        case vn22 => exact (fun R => .bool false)
        case kn22 => exact (fun R => rfl)
        case gn22 => exact gd_none rfl
        intro R s w' hT hs hw ha
        go_simp
      · refine er_q ?vn23 ?hn23 ?kn23 ?gn23 ?_
        case hn23 => exact rfl
        case vn23 => exact (fun R => .int .i64 ep)
        case kn23 => exact (fun R => rfl)
        case gn23 => (refine gd_some rfl ?_; intro R; kernel_rfl)
        intro R s w' hT hs hw ha
        go_simp
      · refine er_q ?vn24 ?hn24 ?kn24 ?gn24 ?_
        case hn24 => exact rfl
        case vn24 => exact (fun R => .bool true)
        case kn24 => exact (fun R => rfl)
        case gn24 => (refine gd_some rfl ?_; intro R; kernel_rfl)
        intro R s w' hT hs hw ha
        go_simp
        exact k3.out w'
      · refine er_q ?vn25 ?hn25 ?kn25 ?gn25 ?_
        case hn25 => exact rfl
        case vn25 => exact (fun R => .bool false)
        case kn25 => exact (fun R => rfl)
        case gn25 => (refine gd_some rfl ?_; intro R; kernel_rfl)
        intro R s w' hT hs hw ha
        go_simp
      · refine er_q ?vn26 ?hn26 ?kn26 ?gn26 ?_
        case hn26 => exact rfl
        case vn26 => exact (fun R => .bool false)
        case kn26 => exact (fun R => rfl)
        case gn26 => exact gd_none rfl
        intro R s w' hT hs hw ha
        go_simp
      · refine er_q ?vn27 ?hn27 ?kn27 ?gn27 ?_
        case hn27 => exact rfl
        case vn27 => exact (fun R => .bool false)
        case kn27 => exact (fun R => rfl)
        case gn27 => exact gd_none rfl
        intro R s w' hT hs hw ha
        go_simp
      · refine er_q ?vn28 ?hn28 ?kn28 ?gn28 ?_
        case hn28 => exact rfl
        case vn28 => exact (fun R => .int .u64 0)
        case kn28 => exact (fun R => rfl)
        case gn28 => (refine gd_some rfl ?_; intro R; kernel_rfl)
        intro R s w' hT hs hw ha
        go_simp
      · refine er_q ?vn29 ?hn29 ?kn29 ?gn29 ?_
        case hn29 => exact rfl
        case vn29 => exact (fun R => .bool true)
        case kn29 => exact (fun R => rfl)
        case gn29 => (refine gd_some rfl ?_; intro R; kernel_rfl)
        intro R s w' hT hs hw ha
        go_simp
      · refine er_q ?vn30 ?hn30 ?kn30 ?gn30 ?_
        case hn30 => exact rfl
        case vn30 => exact (fun R => .bool true)
        case kn30 => exact (fun R => rfl)
        case gn30 => exact gd_none rfl
        intro R s w' hT hs hw ha
        go_simp
    case end30 =>
     intro sI R G w31 hI
     have hS := hI.same
     have hTT := hI.holds
     have hz0 := EE.out.size
     have P4 := P4.sameE hS (fun h => h) (by simp)
     have P8 := P8.sameE hS (fun h => h) (by simp)
     have P10 := P10.sameE hS (fun h => h) (by simp)
     have P11 := P11.sameE hS (fun h => h) (by simp)
     have EE := hide (show Ext _ _ from hTT)
     clear hS hz0 hTT hI
     generalize hF : putE _ _ _ _ _ _ _ = FF
     have hF2 : FF = { tmps := #[.agg B, .int .i64 v, .int .i64 ep, .int .u64 0, .pointer (some ⟨g0, 0, none⟩), undef, undef, undef, .pointer (some ⟨g0 + 1, 0, none⟩), .bool false, .pointer (some ⟨g10, 0, none⟩), .pointer (some ⟨g11, 0, none⟩), undef, undef, undef, undef, undef, undef, undef, .agg (#[.int .u64 0, .int .u64 4, .int .u64 0, .int .u64 0]), .agg limW, .agg B, .pointer (some ⟨g11, 0, none⟩), .agg B, .bool true, .bool false, .bool false, .agg S, .agg limW, .int .i64 r, .bool false, .bool false, .bool false, .int .i64 ep, .bool true, .bool false, .bool false, .bool false, .int .u64 0, .bool true, .bool true, undef, undef, undef, undef, undef, undef, undef, undef, undef, undef, undef, undef, undef, undef, undef, undef, undef, undef, undef, undef, undef, undef, undef, undef, undef, undef, undef, undef, undef, undef, undef, undef, undef, undef, undef, undef, undef, undef, undef, undef], defers := [] } := by subst hF; kernel_rfl
     clear hF
     subst hF2
     go_upto_region 5 with fail
     have P4_lt := P4.lt
     have P8_lt := P8.lt
     have P10_lt := P10.lt
     have P11_lt := P11.lt
     refine wp_evs [.q, .so 0, .q] [0, 0, 0] (fun R => [.agg z21, undef, .bool false]) (fun _ => (.cells #[] 0 (0, 0))) (fun R _ => (.cells z21 42 (0, 0))) (fun _ => g0 + 1) (XE W) (fun _ => False) (by kernel_rfl) (by kernel_rfl) (by kernel_rfl) rfl (fun _ => rfl) (fun _ h => h.elim) (fun _ _ h => h) (by intro c hc; simp at hc; (try subst hc); (try simp only); omega) (by intro c c' h1 h2 _; simp at h1 h2; omega) (fun R R' => ⟨fun _ => rfl, fun _ => rfl, fun _ => rfl, trivial⟩) (fun _ _ _ _ => rfl) xe_below EE.out ?ops34 ?end34
     case ops34 =>
       refine ⟨?_, ?_, ?_, trivial⟩
       · refine er_q ?vn32 ?hn32 ?kn32 ?gn32 ?_
         case hn32 => exact rfl
         case vn32 => exact (fun R => .agg z21)
         case kn32 => exact (fun R => rfl)
         case gn32 => exact gd_none rfl
         intro R s w' hT hs hw ha
         unfold z21
         go_simp
       · refine er_so (c := 0) (Ty := ?Tn33) (p := ?pn33) (x := ?xn33) (g0 + 1) ?fn33 ?un33 ?vn33 ?hn33 ?on33 ?kn33 ?ln33 ?gn33 ?dn33 ?en33 ?_
         case hn33 => exact rfl
         case on33 => exact rfl
         case fn33 => exact (fun R => (.cells z21 42 (0, 0)))
         case un33 => exact (fun R => .pointer (some ⟨g0 + 1, 0, none⟩))
         case vn33 => exact (fun R => .agg z21)
         case kn33 => exact (fun R => rfl)
         case ln33 => exact rfl
         case gn33 => exact gd_none rfl
         case dn33 =>
           intro R
           kernel_rfl
         case en33 =>
           intro R
           kernel_rfl
         intro R s ρ w hT hs hp hx hz
         refine ⟨store_rowN (g := (g0 + 1)) rfl hp hx (hz.trans P8) iCone (rfl) (rfl) (z21_one), fun w1 hF => ext_filled hT hF P8_lo⟩
       · refine er_q ?vn34 ?hn34 ?kn34 ?gn34 ?_
         case hn34 => exact rfl
         case vn34 => exact (fun R => .bool false)
         case kn34 => exact (fun R => rfl)
         case gn34 => exact gd_none rfl
         intro R s w' hT hs hw ha
         go_simp
     case end34 =>
      intro sI R G w35 hI
      have hS := hI.same
      have hTT := hI.holds
      have hz0 := EE.out.size
      have P4 := P4.sameE hS (fun h => h) (by intro c hc; simp at hc; (try subst hc); (try simp only); omega)
      have P10 := P10.sameE hS (fun h => h) (by intro c hc; simp at hc; (try subst hc); (try simp only); omega)
      have P11 := P11.sameE hS (fun h => h) (by intro c hc; simp at hc; (try subst hc); (try simp only); omega)
      have P8 : Blk w35 (g0 + 1) 42 z21 := hI.olds' 1 (List.mem_range.2 (show 1 < 3 by decide)) 0 rfl
      have EE := hide (show Ext _ _ from hTT)
      clear hS hz0 hTT hI
      generalize hF : putE _ _ _ _ _ _ _ = FF
      have hF2 : FF = { tmps := #[.agg B, .int .i64 v, .int .i64 ep, .int .u64 0, .pointer (some ⟨g0, 0, none⟩), undef, undef, undef, .pointer (some ⟨g0 + 1, 0, none⟩), .bool false, .pointer (some ⟨g10, 0, none⟩), .pointer (some ⟨g11, 0, none⟩), undef, undef, undef, undef, undef, undef, undef, .agg (#[.int .u64 0, .int .u64 4, .int .u64 0, .int .u64 0]), .agg limW, .agg B, .pointer (some ⟨g11, 0, none⟩), .agg B, .bool true, .bool false, .bool false, .agg S, .agg limW, .int .i64 r, .bool false, .bool false, .bool false, .int .i64 ep, .bool true, .bool false, .bool false, .bool false, .int .u64 0, .bool true, .bool true, .agg z21, undef, undef, undef, undef, undef, undef, undef, undef, undef, undef, undef, undef, undef, undef, undef, undef, undef, undef, undef, undef, undef, undef, undef, undef, undef, undef, undef, undef, undef, undef, undef, undef, undef, undef, undef, undef, undef, undef, undef], defers := [] } := by subst hF; kernel_rfl
      clear hF
      subst hF2
      go_wp2_with fail
      exact bodyPost_ret (res_row2 (p := 8) (u := 9) (ty := 42) rfl _ _ _ 42 z21 _ rfl P8 uCone rfl rfl) rfl ⟨by kernel_rfl, EE.out⟩
end
section
open Go Go.RowKit
theorem Box.same {kd : List Tag} {tgt : Nat → Nat} {W w : World} {g : Nat} {s : Bool} {a b c d : Nat} (x : Box W g s a b c d) (h : Same kd tgt W w) (hc : ∀ c, Tag.so c ∈ kd → tgt c ≠ g) : Box w g s a b c d := h.block x hc
theorem run_wide {w : World} {g : Nat} {s s' : Bool} {a b c d a' b' c' d' : Nat} (hz : Box w g s' a' b' c' d') : (Instr.storeAt 25 (ptrTo g) (.agg #[.bool s, .int .u64 (a : Int), .int .u64 (b : Int), .int .u64 (c : Int), .int .u64 (d : Int)])).run Try.prog w = .ok () (((((w.setCell ⟨g, 0, none⟩ (.bool s)).setCell ⟨g, 1, none⟩ (.int .u64 (a : Int))).setCell ⟨g, 2, none⟩ (.int .u64 (b : Int))).setCell ⟨g, 3, none⟩ (.int .u64 (c : Int))).setCell ⟨g, 4, none⟩ (.int .u64 (d : Int))) := by
 obtain ⟨q0, q1, q2, q3, q4, r0, r1, r2, r3, r4⟩ := five_cells hz
 unfold ptrTo
 go_simp
theorem store_wide {ρ : Operand → Value} {o : Oper} {p x : Operand} {w : World} {g : Nat} {s s' : Bool} {a b c d a' b' c' d' : Nat} (hop : o.op = .store 25 p x) (hp : ρ p = ptrTo g) (hx : ρ x = .agg #[.bool s, .int .u64 (a : Int), .int .u64 (b : Int), .int .u64 (c : Int), .int .u64 (d : Int)]) (hz : w.heap[g]? = some (.cells #[.bool s', .int .u64 (a' : Int), .int .u64 (b' : Int), .int .u64 (c' : Int), .int .u64 (d' : Int)] 25 (0, 0))) :
   Stores Try.prog ρ o w g (.cells #[.bool s, .int .u64 (a : Int), .int .u64 (b : Int), .int .u64 (c : Int), .int .u64 (d : Int)] 25 (0, 0)) := by
 have h1 : (execOp ρ o).run Try.prog w = .ok .skip (((((w.setCell ⟨g, 0, none⟩ (.bool s)).setCell ⟨g, 1, none⟩ (.int .u64 (a : Int))).setCell ⟨g, 2, none⟩ (.int .u64 (b : Int))).setCell ⟨g, 3, none⟩ (.int .u64 (c : Int))).setCell ⟨g, 4, none⟩ (.int .u64 (d : Int))) := by
   refine run_storeOp hop ?_
   rw [hp, hx]
   exact run_wide (s := s) (a := a) (b := b) (c := c) (d := d) (show Box w g s' a' b' c' d' from hz)
 have h2 : Box (((((w.setCell ⟨g, 0, none⟩ (.bool s)).setCell ⟨g, 1, none⟩ (.int .u64 (a : Int))).setCell ⟨g, 2, none⟩ (.int .u64 (b : Int))).setCell ⟨g, 3, none⟩ (.int .u64 (c : Int))).setCell ⟨g, 4, none⟩ (.int .u64 (d : Int))) g s a b c d := Box.put (show Box w g s' a' b' c' d' from hz)
 refine ⟨_, h1, h2, ?_, ?_, ?_, ?_, ?_⟩
 · intro k hk
   rw [far_set hk, far_set hk, far_set hk, far_set hk, far_set hk]
 · simp only [World.size_setCell]
 · simp only [os_set]
 · simp only [tape_set]
 · simp only [output_set]
end
section
open Go Go.RowKit
theorem Box10.same {kd : List Tag} {tgt : Nat → Nat} {W w : World} {k : Nat} {s : Bool} {a b c d : Nat} {t : Bool} {e f g h : Nat} (x : Box10 W k s a b c d t e f g h) (y : Same kd tgt W w) (hc : ∀ c, Tag.so c ∈ kd → tgt c ≠ k) : Box10 w k s a b c d t e f g h := y.block x hc
theorem run_ratio {w : World} {g : Nat} {s s' t t' : Bool} {a b c d e f h i a' b' c' d' e' f' h' i' : Nat} (hz : Box10 w g s' a' b' c' d' t' e' f' h' i') : (Instr.storeAt 40 (ptrTo g) (.agg #[.bool s, .int .u64 (a : Int), .int .u64 (b : Int), .int .u64 (c : Int), .int .u64 (d : Int), .bool t, .int .u64 (e : Int), .int .u64 (f : Int), .int .u64 (h : Int), .int .u64 (i : Int)])).run Try.prog w = .ok () ((((((((((w.setCell ⟨g, 0, none⟩ (.bool s)).setCell ⟨g, 1, none⟩ (.int .u64 (a : Int))).setCell ⟨g, 2, none⟩ (.int .u64 (b : Int))).setCell ⟨g, 3, none⟩ (.int .u64 (c : Int))).setCell ⟨g, 4, none⟩ (.int .u64 (d : Int))).setCell ⟨g, 5, none⟩ (.bool t)).setCell ⟨g, 6, none⟩ (.int .u64 (e : Int))).setCell ⟨g, 7, none⟩ (.int .u64 (f : Int))).setCell ⟨g, 8, none⟩ (.int .u64 (h : Int))).setCell ⟨g, 9, none⟩ (.int .u64 (i : Int))) := by
 obtain ⟨q0, q1, q2, q3, q4, q5, q6, q7, q8, q9, r0, r1, r2, r3, r4, r5, r6, r7, r8, r9⟩ := ten_cells hz
 unfold ptrTo
 go_simp
theorem store_ratio {ρ : Operand → Value} {o : Oper} {p x : Operand} {w : World} {g : Nat} {s s' t t' : Bool} {a b c d e f h i a' b' c' d' e' f' h' i' : Nat} (hop : o.op = .store 40 p x) (hp : ρ p = ptrTo g) (hx : ρ x = .agg #[.bool s, .int .u64 (a : Int), .int .u64 (b : Int), .int .u64 (c : Int), .int .u64 (d : Int), .bool t, .int .u64 (e : Int), .int .u64 (f : Int), .int .u64 (h : Int), .int .u64 (i : Int)]) (hz : w.heap[g]? = some (.cells #[.bool s', .int .u64 (a' : Int), .int .u64 (b' : Int), .int .u64 (c' : Int), .int .u64 (d' : Int), .bool t', .int .u64 (e' : Int), .int .u64 (f' : Int), .int .u64 (h' : Int), .int .u64 (i' : Int)] 40 (0, 0))) :
   Stores Try.prog ρ o w g (.cells #[.bool s, .int .u64 (a : Int), .int .u64 (b : Int), .int .u64 (c : Int), .int .u64 (d : Int), .bool t, .int .u64 (e : Int), .int .u64 (f : Int), .int .u64 (h : Int), .int .u64 (i : Int)] 40 (0, 0)) := by
 have h1 : (execOp ρ o).run Try.prog w = .ok .skip ((((((((((w.setCell ⟨g, 0, none⟩ (.bool s)).setCell ⟨g, 1, none⟩ (.int .u64 (a : Int))).setCell ⟨g, 2, none⟩ (.int .u64 (b : Int))).setCell ⟨g, 3, none⟩ (.int .u64 (c : Int))).setCell ⟨g, 4, none⟩ (.int .u64 (d : Int))).setCell ⟨g, 5, none⟩ (.bool t)).setCell ⟨g, 6, none⟩ (.int .u64 (e : Int))).setCell ⟨g, 7, none⟩ (.int .u64 (f : Int))).setCell ⟨g, 8, none⟩ (.int .u64 (h : Int))).setCell ⟨g, 9, none⟩ (.int .u64 (i : Int))) := by
   refine run_storeOp hop ?_
   rw [hp, hx]
   exact run_ratio (s := s) (a := a) (b := b) (c := c) (d := d) (t := t) (e := e) (f := f) (h := h) (i := i) (show Box10 w g s' a' b' c' d' t' e' f' h' i' from hz)
 have h2 : Box10 ((((((((((w.setCell ⟨g, 0, none⟩ (.bool s)).setCell ⟨g, 1, none⟩ (.int .u64 (a : Int))).setCell ⟨g, 2, none⟩ (.int .u64 (b : Int))).setCell ⟨g, 3, none⟩ (.int .u64 (c : Int))).setCell ⟨g, 4, none⟩ (.int .u64 (d : Int))).setCell ⟨g, 5, none⟩ (.bool t)).setCell ⟨g, 6, none⟩ (.int .u64 (e : Int))).setCell ⟨g, 7, none⟩ (.int .u64 (f : Int))).setCell ⟨g, 8, none⟩ (.int .u64 (h : Int))).setCell ⟨g, 9, none⟩ (.int .u64 (i : Int))) g s a b c d t e f h i := Box10.put (show Box10 w g s' a' b' c' d' t' e' f' h' i' from hz)
 refine ⟨_, h1, h2, ?_, ?_, ?_, ?_, ?_⟩
 · intro k hk
   rw [far_set hk, far_set hk, far_set hk, far_set hk, far_set hk, far_set hk, far_set hk, far_set hk, far_set hk, far_set hk]
 · simp only [World.size_setCell]
 · simp only [os_set]
 · simp only [tape_set]
 · simp only [output_set]
end
section
open Go Go.RowKit Go.Sort
attribute [local go_sem] qUpon putAll slotV
set_option maxRecDepth 100000 in
set_option maxHeartbeats 8000000 in
theorem s_integer {z : Int} (hz : F256 z) (w : World) : Calls Try.prog 91 #[.agg #[.bool (sg z), .int .u64 (l0 z : Int), .int .u64 (l1 z : Int), .int .u64 (l2 z : Int), .int .u64 (l3 z : Int)]] w (Ret (.agg #[.bool (sg z), .int .u64 (l0 z : Int), .int .u64 (l1 z : Int), .int .u64 (l2 z : Int), .int .u64 (l3 z : Int), .bool (sg 1), .int .u64 (l0 1 : Int), .int .u64 (l1 1 : Int), .int .u64 (l2 1 : Int), .int .u64 (l3 1 : Int)]) w) := by
 have kO : Hid (∀ w, Calls Try.prog 39 #[.int .i64 1] w (Ret (.agg #[.bool (sg 1), .int .u64 (l0 1 : Int), .int .u64 (l1 1 : Int), .int .u64 (l2 1 : Int), .int .u64 (l3 1 : Int)]) w)) := fun w => c_ofi (by omega) (by omega) w
 obtain ⟨W0, hW0⟩ : ∃ W0, W0 = ((w.alloc (.cells #[.bool (sg z), .int .u64 (l0 z : Int), .int .u64 (l1 z : Int), .int .u64 (l2 z : Int), .int .u64 (l3 z : Int)] 25)).alloc (.cells #[.bool false, .int .u64 0, .int .u64 0, .int .u64 0, .int .u64 0, .bool false, .int .u64 0, .int .u64 0, .int .u64 0, .int .u64 0] 40)) := ⟨_, rfl⟩
 have H2 := two_blocks w (.cells #[.bool (sg z), .int .u64 (l0 z : Int), .int .u64 (l1 z : Int), .int .u64 (l2 z : Int), .int .u64 (l3 z : Int)] 25) (.cells #[.bool false, .int .u64 0, .int .u64 0, .int .u64 0, .int .u64 0, .bool false, .int .u64 0, .int .u64 0, .int .u64 0, .int .u64 0] 40)
 have EE0 : Ext w W0 := by rw [hW0]; exact ((ext_alloc _ _).trans (ext_alloc _ _))
 rw [← hW0] at H2
 have EE := hide EE0
 have HW := hide hW0
 obtain ⟨P1, P2⟩ : Box W0 (w.heap.size) (sg z) (l0 z) (l1 z) (l2 z) (l3 z) ∧ Box10 W0 ((w.heap.size + 1)) false 0 0 0 0 false 0 0 0 0 := H2
 clear hW0 EE0
 go_enter Try.func91, Try.ntmps91
 go_upto_region 1 with fail
 rw [← HW.out]
 clear HW
 have hg0 : w.heap.size ≤ w.heap.size := Nat.le_refl _
 obtain ⟨g0, hg⟩ : ∃ g, w.heap.size = g := ⟨_, rfl⟩
 rw [hg] at P1 P2 ⊢
 replace hg0 : w.heap.size ≤ g0 := Nat.le_of_eq hg
 clear hg
 have lbP1 := P1.lt
 have lbP2 := P2.lt
 have ltW0 : ∀ c, Tag.so c ∈ [.q, .q, .q, .so 0] → (fun _ => g0 + 1) c < W0.heap.size := by intro c hc; simp at hc; (try subst hc); (try simp only); omega
 refine wp_decl [.q, .q, .q, .so 0] [.agg #[.bool (sg z), .int .u64 (l0 z : Int), .int .u64 (l1 z : Int), .int .u64 (l2 z : Int), .int .u64 (l3 z : Int)], .agg #[.bool (sg 1), .int .u64 (l0 1 : Int), .int .u64 (l1 1 : Int), .int .u64 (l2 1 : Int), .int .u64 (l3 1 : Int)], .agg #[.bool (sg z), .int .u64 (l0 z : Int), .int .u64 (l1 z : Int), .int .u64 (l2 z : Int), .int .u64 (l3 z : Int), .bool (sg 1), .int .u64 (l0 1 : Int), .int .u64 (l1 1 : Int), .int .u64 (l2 1 : Int), .int .u64 (l3 1 : Int)], undef] (fun _ => (.cells #[.bool false, .int .u64 0, .int .u64 0, .int .u64 0, .int .u64 0] 25 (0, 0))) (fun _ => (.cells #[.bool (sg z), .int .u64 (l0 z : Int), .int .u64 (l1 z : Int), .int .u64 (l2 z : Int), .int .u64 (l3 z : Int), .bool (sg 1), .int .u64 (l0 1 : Int), .int .u64 (l1 1 : Int), .int .u64 (l2 1 : Int), .int .u64 (l3 1 : Int)] 40 (0, 0))) (fun _ => g0 + 1) (by kernel_rfl) (by kernel_rfl) (by kernel_rfl) rfl rfl ltW0 (by intro c c' h1 h2 _; simp at h1 h2; omega) ?_ ?_
 · refine ⟨?_, ?_, ?_, ?_, trivial⟩
   · refine op_q ?uvn2 ?h1n2 ?h2n2 ?h3n2
     case h1n2 => exact rfl
     case uvn2 => exact (.agg #[.bool (sg z), .int .u64 (l0 z : Int), .int .u64 (l1 z : Int), .int .u64 (l2 z : Int), .int .u64 (l3 z : Int)])
     case h2n2 => exact rfl
     intro w' hw'
     have P1 := P1.same hw' (by intro c hc; simp at hc; (try subst hc); (try simp only); omega)
     have xP1 := five_cells P1
     go_simp
   · refine op_q ?uvn3 ?h1n3 ?h2n3 ?h3n3
     case h1n3 => exact rfl
     case uvn3 => exact (.agg #[.bool (sg 1), .int .u64 (l0 1 : Int), .int .u64 (l1 1 : Int), .int .u64 (l2 1 : Int), .int .u64 (l3 1 : Int)])
     case h2n3 => exact rfl
     intro w' hw'
     go_simp
     exact kO.out w'
   · refine op_q ?uvn4 ?h1n4 ?h2n4 ?h3n4
     case h1n4 => exact rfl
     case uvn4 => exact (.agg #[.bool (sg z), .int .u64 (l0 z : Int), .int .u64 (l1 z : Int), .int .u64 (l2 z : Int), .int .u64 (l3 z : Int), .bool (sg 1), .int .u64 (l0 1 : Int), .int .u64 (l1 1 : Int), .int .u64 (l2 1 : Int), .int .u64 (l3 1 : Int)])
     case h2n4 => exact rfl
     intro w' hw'
     go_simp
   · refine op_so (c := 0) (T := ?uTn5) (p := ?upn5) (x := ?uxn5) ?ugn5 ?ufn5 ?uvn5 ?h1n5 ?h2n5 ?h3n5 ?h4n5 ?h5n5 ?h6n5 ?h7n5
     case h1n5 => exact rfl
     case h2n5 => exact rfl
     case ufn5 => exact (.cells #[.bool (sg z), .int .u64 (l0 z : Int), .int .u64 (l1 z : Int), .int .u64 (l2 z : Int), .int .u64 (l3 z : Int), .bool (sg 1), .int .u64 (l0 1 : Int), .int .u64 (l1 1 : Int), .int .u64 (l2 1 : Int), .int .u64 (l3 1 : Int)] 40 (0, 0))
     case ugn5 => exact g0 + 1
     case uvn5 => exact (.agg #[.bool (sg z), .int .u64 (l0 z : Int), .int .u64 (l1 z : Int), .int .u64 (l2 z : Int), .int .u64 (l3 z : Int), .bool (sg 1), .int .u64 (l0 1 : Int), .int .u64 (l1 1 : Int), .int .u64 (l2 1 : Int), .int .u64 (l3 1 : Int)])
     case h3n5 => exact rfl
     case h4n5 => exact rfl
     case h5n5 => go_simp; rfl
     case h6n5 => go_simp
     intro ρ w' hp hx hz
     exact store_ratio rfl hp hx (hz.trans P2)
 · intro G W1 hI
   have hS := hI.same
   have P1 := P1.same hS (by intro c hc; simp at hc; (try subst hc); (try simp only); omega)
   have hso : ∀ c, Tag.so c ∈ [.q, .q, .q, .so 0] → w.heap.size ≤ (fun _ => g0 + 1) c := by intro c hc; simp at hc; (try subst hc); (try simp only); omega
   have EE := hide (hS.ext' EE.out hso)
   have P2 : Box10 W1 (g0 + 1) (sg z) (l0 z) (l1 z) (l2 z) (l3 z) (sg 1) (l0 1) (l1 1) (l2 1) (l3 1) := hI.olds' 3 (List.mem_range.2 (show 3 < 4 by decide)) 0 rfl
   clear hI hS
   simp only [putAll, slotV, ptrTo, Nat.zero_add, Nat.reduceAdd]
   go_wp2_with fail
   obtain ⟨xP20, xP21, xP22, xP23, xP24, xP25, xP26, xP27, xP28, xP29, xP2f0, xP2f1, xP2f2, xP2f3, xP2f4, xP2f5, xP2f6, xP2f7, xP2f8, xP2f9⟩ := ten_cells P2
   exact bodyPost_ret (v := .agg #[.bool (sg z), .int .u64 (l0 z : Int), .int .u64 (l1 z : Int), .int .u64 (l2 z : Int), .int .u64 (l3 z : Int), .bool (sg 1), .int .u64 (l0 1 : Int), .int .u64 (l1 1 : Int), .int .u64 (l2 1 : Int), .int .u64 (l3 1 : Int)]) (by simp [results, Try.results91, go_sem, xP20, xP21, xP22, xP23, xP24, xP25, xP26, xP27, xP28, xP29]) rfl ⟨rfl, EE.out⟩
set_option maxRecDepth 100000 in
set_option maxHeartbeats 8000000 in
theorem s_negative {n d m : Int} (hn : F256 n) (e : -n = m) (w : World) : Calls Try.prog 75 #[.agg #[.bool (sg n), .int .u64 (l0 n : Int), .int .u64 (l1 n : Int), .int .u64 (l2 n : Int), .int .u64 (l3 n : Int), .bool (sg d), .int .u64 (l0 d : Int), .int .u64 (l1 d : Int), .int .u64 (l2 d : Int), .int .u64 (l3 d : Int)]] w (Ret (.agg #[.bool (sg m), .int .u64 (l0 m : Int), .int .u64 (l1 m : Int), .int .u64 (l2 m : Int), .int .u64 (l3 m : Int), .bool (sg d), .int .u64 (l0 d : Int), .int .u64 (l1 d : Int), .int .u64 (l2 d : Int), .int .u64 (l3 d : Int)]) w) := by
 have kN : Hid (∀ w, Calls Try.prog 65 #[.agg #[.bool (sg n), .int .u64 (l0 n : Int), .int .u64 (l1 n : Int), .int .u64 (l2 n : Int), .int .u64 (l3 n : Int)]] w (Ret (.agg #[.bool (sg m), .int .u64 (l0 m : Int), .int .u64 (l1 m : Int), .int .u64 (l2 m : Int), .int .u64 (l3 m : Int)]) w)) := fun w => c_neg hn e w
 clear e
 obtain ⟨W0, hW0⟩ : ∃ W0, W0 = ((w.alloc (.cells #[.bool (sg n), .int .u64 (l0 n : Int), .int .u64 (l1 n : Int), .int .u64 (l2 n : Int), .int .u64 (l3 n : Int), .bool (sg d), .int .u64 (l0 d : Int), .int .u64 (l1 d : Int), .int .u64 (l2 d : Int), .int .u64 (l3 d : Int)] 40)).alloc (.cells #[.bool false, .int .u64 0, .int .u64 0, .int .u64 0, .int .u64 0, .bool false, .int .u64 0, .int .u64 0, .int .u64 0, .int .u64 0] 40)) := ⟨_, rfl⟩
 have H2 := two_blocks w (.cells #[.bool (sg n), .int .u64 (l0 n : Int), .int .u64 (l1 n : Int), .int .u64 (l2 n : Int), .int .u64 (l3 n : Int), .bool (sg d), .int .u64 (l0 d : Int), .int .u64 (l1 d : Int), .int .u64 (l2 d : Int), .int .u64 (l3 d : Int)] 40) (.cells #[.bool false, .int .u64 0, .int .u64 0, .int .u64 0, .int .u64 0, .bool false, .int .u64 0, .int .u64 0, .int .u64 0, .int .u64 0] 40)
 have EE0 : Ext w W0 := by rw [hW0]; exact ((ext_alloc _ _).trans (ext_alloc _ _))
 rw [← hW0] at H2
 have EE := hide EE0
 have HW := hide hW0
 obtain ⟨P1, P2⟩ : Box10 W0 (w.heap.size) (sg n) (l0 n) (l1 n) (l2 n) (l3 n) (sg d) (l0 d) (l1 d) (l2 d) (l3 d) ∧ Box10 W0 ((w.heap.size + 1)) false 0 0 0 0 false 0 0 0 0 := H2
 clear hW0 EE0
 go_enter Try.func75, Try.ntmps75
 go_upto_region 1 with fail
 rw [← HW.out]
 clear HW
 have hg0 : w.heap.size ≤ w.heap.size := Nat.le_refl _
 obtain ⟨g0, hg⟩ : ∃ g, w.heap.size = g := ⟨_, rfl⟩
 rw [hg] at P1 P2 ⊢
 replace hg0 : w.heap.size ≤ g0 := Nat.le_of_eq hg
 clear hg
 have lbP1 := P1.lt
 have lbP2 := P2.lt
 have ltW0 : ∀ c, Tag.so c ∈ [.q, .q, .q, .q, .q, .q, .so 0] → (fun _ => g0 + 1) c < W0.heap.size := by intro c hc; simp at hc; (try subst hc); (try simp only); omega
 refine wp_decl [.q, .q, .q, .q, .q, .q, .so 0] [.pointer (some ⟨g0, 0, none⟩), .agg #[.bool (sg n), .int .u64 (l0 n : Int), .int .u64 (l1 n : Int), .int .u64 (l2 n : Int), .int .u64 (l3 n : Int)], .agg #[.bool (sg m), .int .u64 (l0 m : Int), .int .u64 (l1 m : Int), .int .u64 (l2 m : Int), .int .u64 (l3 m : Int)], .pointer (some ⟨g0, 5, none⟩), .agg #[.bool (sg d), .int .u64 (l0 d : Int), .int .u64 (l1 d : Int), .int .u64 (l2 d : Int), .int .u64 (l3 d : Int)], .agg #[.bool (sg m), .int .u64 (l0 m : Int), .int .u64 (l1 m : Int), .int .u64 (l2 m : Int), .int .u64 (l3 m : Int), .bool (sg d), .int .u64 (l0 d : Int), .int .u64 (l1 d : Int), .int .u64 (l2 d : Int), .int .u64 (l3 d : Int)], undef] (fun _ => (.cells #[.bool false, .int .u64 0, .int .u64 0, .int .u64 0, .int .u64 0] 25 (0, 0))) (fun _ => (.cells #[.bool (sg m), .int .u64 (l0 m : Int), .int .u64 (l1 m : Int), .int .u64 (l2 m : Int), .int .u64 (l3 m : Int), .bool (sg d), .int .u64 (l0 d : Int), .int .u64 (l1 d : Int), .int .u64 (l2 d : Int), .int .u64 (l3 d : Int)] 40 (0, 0))) (fun _ => g0 + 1) (by kernel_rfl) (by kernel_rfl) (by kernel_rfl) rfl rfl ltW0 (by intro c c' h1 h2 _; simp at h1 h2; omega) ?_ ?_
 · refine ⟨?_, ?_, ?_, ?_, ?_, ?_, ?_, trivial⟩
   · refine op_q ?uvn7 ?h1n7 ?h2n7 ?h3n7
     case h1n7 => exact rfl
     case uvn7 => exact (.pointer (some ⟨g0, 0, none⟩))
     case h2n7 => exact rfl
     intro w' hw'
     go_simp
   · refine op_q ?uvn8 ?h1n8 ?h2n8 ?h3n8
     case h1n8 => exact rfl
     case uvn8 => exact (.agg #[.bool (sg n), .int .u64 (l0 n : Int), .int .u64 (l1 n : Int), .int .u64 (l2 n : Int), .int .u64 (l3 n : Int)])
     case h2n8 => exact rfl
     intro w' hw'
     have P1 := P1.same hw' (by intro c hc; simp at hc; (try subst hc); (try simp only); omega)
     have xP1 := ten_cells P1
     go_simp
   · refine op_q ?uvn9 ?h1n9 ?h2n9 ?h3n9
     case h1n9 => exact rfl
     case uvn9 => exact (.agg #[.bool (sg m), .int .u64 (l0 m : Int), .int .u64 (l1 m : Int), .int .u64 (l2 m : Int), .int .u64 (l3 m : Int)])
     case h2n9 => exact rfl
     intro w' hw'
     go_simp
     exact kN.out w'
   · refine op_q ?uvn10 ?h1n10 ?h2n10 ?h3n10
     case h1n10 => exact rfl
     case uvn10 => exact (.pointer (some ⟨g0, 5, none⟩))
     case h2n10 => exact rfl
     intro w' hw'
     go_simp
   · refine op_q ?uvn11 ?h1n11 ?h2n11 ?h3n11
     case h1n11 => exact rfl
     case uvn11 => exact (.agg #[.bool (sg d), .int .u64 (l0 d : Int), .int .u64 (l1 d : Int), .int .u64 (l2 d : Int), .int .u64 (l3 d : Int)])
     case h2n11 => exact rfl
     intro w' hw'
     have P1 := P1.same hw' (by intro c hc; simp at hc; (try subst hc); (try simp only); omega)
     have xP1 := ten_cells P1
     go_simp
   · refine op_q ?uvn12 ?h1n12 ?h2n12 ?h3n12
     case h1n12 => exact rfl
     case uvn12 => exact (.agg #[.bool (sg m), .int .u64 (l0 m : Int), .int .u64 (l1 m : Int), .int .u64 (l2 m : Int), .int .u64 (l3 m : Int), .bool (sg d), .int .u64 (l0 d : Int), .int .u64 (l1 d : Int), .int .u64 (l2 d : Int), .int .u64 (l3 d : Int)])
     case h2n12 => exact rfl
     intro w' hw'
     go_simp
   · refine op_so (c := 0) (T := ?uTn13) (p := ?upn13) (x := ?uxn13) ?ugn13 ?ufn13 ?uvn13 ?h1n13 ?h2n13 ?h3n13 ?h4n13 ?h5n13 ?h6n13 ?h7n13
     case h1n13 => exact rfl
     case h2n13 => exact rfl
     case ufn13 => exact (.cells #[.bool (sg m), .int .u64 (l0 m : Int), .int .u64 (l1 m : Int), .int .u64 (l2 m : Int), .int .u64 (l3 m : Int), .bool (sg d), .int .u64 (l0 d : Int), .int .u64 (l1 d : Int), .int .u64 (l2 d : Int), .int .u64 (l3 d : Int)] 40 (0, 0))
     case ugn13 => exact g0 + 1
     case uvn13 => exact (.agg #[.bool (sg m), .int .u64 (l0 m : Int), .int .u64 (l1 m : Int), .int .u64 (l2 m : Int), .int .u64 (l3 m : Int), .bool (sg d), .int .u64 (l0 d : Int), .int .u64 (l1 d : Int), .int .u64 (l2 d : Int), .int .u64 (l3 d : Int)])
     case h3n13 => exact rfl
     case h4n13 => exact rfl
     case h5n13 => go_simp; rfl
     case h6n13 => go_simp
     intro ρ w' hp hx hz
     exact store_ratio rfl hp hx (hz.trans P2)
 · intro G W1 hI
   have hS := hI.same
   have P1 := P1.same hS (by intro c hc; simp at hc; (try subst hc); (try simp only); omega)
   have hso : ∀ c, Tag.so c ∈ [.q, .q, .q, .q, .q, .q, .so 0] → w.heap.size ≤ (fun _ => g0 + 1) c := by intro c hc; simp at hc; (try subst hc); (try simp only); omega
   have EE := hide (hS.ext' EE.out hso)
   have P2 : Box10 W1 (g0 + 1) (sg m) (l0 m) (l1 m) (l2 m) (l3 m) (sg d) (l0 d) (l1 d) (l2 d) (l3 d) := hI.olds' 6 (List.mem_range.2 (show 6 < 7 by decide)) 0 rfl
   clear hI hS
   simp only [putAll, slotV, ptrTo, Nat.zero_add, Nat.reduceAdd]
   go_wp2_with fail
   obtain ⟨xP20, xP21, xP22, xP23, xP24, xP25, xP26, xP27, xP28, xP29, xP2f0, xP2f1, xP2f2, xP2f3, xP2f4, xP2f5, xP2f6, xP2f7, xP2f8, xP2f9⟩ := ten_cells P2
   exact bodyPost_ret (v := .agg #[.bool (sg m), .int .u64 (l0 m : Int), .int .u64 (l1 m : Int), .int .u64 (l2 m : Int), .int .u64 (l3 m : Int), .bool (sg d), .int .u64 (l0 d : Int), .int .u64 (l1 d : Int), .int .u64 (l2 d : Int), .int .u64 (l3 d : Int)]) (by simp [results, Try.results75, go_sem, xP20, xP21, xP22, xP23, xP24, xP25, xP26, xP27, xP28, xP29]) rfl ⟨rfl, EE.out⟩
end
section
open Go Go.RowKit Go.Sort
attribute [local go_sem] qUpon putAll slotV
theorem sign_pos {z : Int} (h : 0 < z) : z.sign = 1 := Int.sign_eq_one_of_pos h
theorem sign_neg {z : Int} (h : z < 0) : z.sign = -1 := Int.sign_eq_neg_one_of_neg h
theorem F256.abs {z : Int} (h : F256 z) : F256 (z.natAbs : Int) := by unfold F256 at *; simpa using h
theorem F256.neg {z : Int} (h : F256 z) : F256 (-z) := by unfold F256 at *; simpa using h
theorem some_sign (z : Int) : ∃ k : Int, z.sign = k ∧ (k < 0 ↔ z < 0) ∧ (0 < k ↔ 0 < z) ∧ (k = 0 ↔ z = 0) := by
 refine ⟨_, rfl, ?_⟩
 rcases Int.lt_trichotomy z 0 with h | h | h
 · rw [sign_neg h]; omega
 · subst h; simp
 · rw [sign_pos h]; omega
theorem neWW {x y : Int} (hx : F256 x) (hy : F256 y) (w : World) : (binOp .neq 25 (.agg #[.bool (sg x), .int .u64 (l0 x : Int), .int .u64 (l1 x : Int), .int .u64 (l2 x : Int), .int .u64 (l3 x : Int)]) (.agg #[.bool (sg y), .int .u64 (l0 y : Int), .int .u64 (l1 y : Int), .int .u64 (l2 y : Int), .int .u64 (l3 y : Int)])).run Try.prog w = .ok (.bool (decide (x ≠ y))) w := by
 rw [neq5]
 have e := same_isC (isC_of hx) (isC_of hy)
 unfold same5 at e
 rw [e]; simp
end
end Go.Proofs.Ythlbkidgdngblaa
