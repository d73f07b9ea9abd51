/- Part 7 of what these claims stand on: contracts of the program's and the reference's functions, and plain facts. Conditions: each states its own. -/
import Derived.Test.YtlfmeiejocpnfaaPrF6
import Derived.Deep.RegionLaw
namespace Go.Proofs.Ytlfmeiejocpnfaa
set_option linter.unusedVariables false
set_option linter.unusedSimpArgs false
section
open Go Go.RowKit Go.Sort
attribute [local go_sem] qUpon eUpon putE slE
def sgN : Array Value := #[.func (.func 62) #[] #[], .func (.func 55) #[] #[], .func (.func 52) #[] #[]]
theorem uSgn : Try.prog.underlying 86 = some (.struct (Try.prog.fieldsOf 86)) := by kernel_rfl
theorem iSgn : (Try.prog.info? 86).map (·.size) = some 3 := by kernel_rfl
theorem p_means (W : World) : Calls Try.prog 42 #[] W (Ret (.agg sgN) W) := by
 go_enter Try.func42, Try.ntmps42
 go_wp2_with fail
 exact bodyPost_ret (results_cell_row (p := 0) (ty := 86) rfl _ _ _ 86 sgN (0, 0) _ rfl (Blk.new _ _ _) uSgn rfl iSgn) rfl ⟨rfl, ext_alloc _ _⟩
set_option maxHeartbeats 3200000 in
set_option maxRecDepth 100000 in
theorem p_segY (X S : Array Value) (t c lo hi : Int) (hX : MeX X t c lo hi S) (Y : Array Value) (v : Int) (sY : Y.size = 9) (oY : Y.all (·.oneCell') = true) (kx : Hid (∀ w, Calls Try.prog 62 #[.agg X, .int .i64 v] w (Ret (.tuple #[.agg Y, .bool true]) w))) (W : World) : Calls Try.prog 51 #[.agg sgN, .agg X, .int .i64 v] W (CoPair Y [] W) := by
 have he1 : ∀ a w, (callFunc 62 a).run Try.prog w = .ok (.enter 62 a) w := fun a w => by go_simp
 have P3 := ((Blk.new W 86 sgN).alloc (.cells X 27)).alloc (.cells z9m 27)
 have P4 := (Blk.new (W.alloc (.cells sgN 86)) 27 X).alloc (.cells z9m 27)
 rw [alloc_size] at P4
 have P6 := Blk.new ((W.alloc (.cells sgN 86)).alloc (.cells X 27)) 27 z9m
 simp only [alloc_size] at P6
 have EE := hide (((ext_alloc W (.cells sgN 86)).trans (ext_alloc _ (.cells X 27))).trans (ext_alloc _ (.cells z9m 27)))
 obtain ⟨W1, hW1⟩ : ∃ W1, (((W.alloc (.cells sgN 86)).alloc (.cells X 27)).alloc (.cells z9m 27)) = W1 := ⟨_, rfl⟩
 obtain ⟨g0, hg⟩ : ∃ g, W.heap.size = g := ⟨_, rfl⟩
 rw [hW1] at P3 P4 P6 EE
 rw [hg] at P3 P4 P6
 have P3_lo : W.heap.size ≤ g0 := by omega
 have P4_lo : W.heap.size ≤ g0 + 1 := by omega
 have P6_lo : W.heap.size ≤ g0 + 1 + 1 := by omega
 have HW := hide hW1
 have Hg := hide hg
 clear hW1 hg
 go_enter Try.func51, Try.ntmps51
 go_upto_region 1 with fail
 unfold z9m at HW
 rw [HW.out, Hg.out]
 clear HW Hg
 have P3_lt := P3.lt
 have P4_lt := P4.lt
 have P6_lt := P6.lt
 refine wp_evs [.q, .q, .q, .q, .q, .q, .q, .q, .al, .st 8, .q] [0, 0, 0, 0, 0, 0, 0, 0, 0, 0, 0] (fun R => [.pointer (some ⟨g0, 0, none⟩), .func (.func 62) #[] #[], .agg X, .int .i64 v, .tuple #[.agg Y, .bool true], .tuple #[.agg Y, .bool true], .agg Y, .bool true, undef, undef, .bool true]) (fun _ => (.cells z9m 27 (0, 0))) (fun R _ => (.cells Y 27 (0, 0))) (fun _ => 0) (XE W) (fun _ => False) (by kernel_rfl) (by kernel_rfl) (by kernel_rfl) rfl (fun _ => rfl) (fun _ h => h.elim) (fun _ _ h => h) (by simp) (by simp) (fun R R' => ⟨fun _ => rfl, fun _ => rfl, fun _ => rfl, fun _ => rfl, fun _ => rfl, fun _ => rfl, fun _ => rfl, fun _ => rfl, fun _ => rfl, fun _ => rfl, fun _ => rfl, trivial⟩) (fun _ _ _ _ => rfl) xe_below EE.out ?ops11 ?end11
 case ops11 =>
   refine ⟨?_, ?_, ?_, ?_, ?_, ?_, ?_, ?_, ?_, ?_, ?_, trivial⟩
   · refine er_q ?vn1 ?hn1 ?kn1 ?gn1 ?_
     case hn1 => exact rfl
     case vn1 => exact (fun R => .pointer (some ⟨g0, 0, none⟩))
     case kn1 => exact (fun R => rfl)
     case gn1 => exact gd_none rfl
     intro R s w' hT hs hw ha
     go_simp
   · refine er_q ?vn2 ?hn2 ?kn2 ?gn2 ?_
     case hn2 => exact rfl
     case vn2 => exact (fun R => .func (.func 62) #[] #[])
     case kn2 => exact (fun R => rfl)
     case gn2 => exact gd_none rfl
     intro R s w' hT hs hw ha
     have cc := ((show Blk w' g0 _ sgN from P3.sameE hw (fun h => h) (by simp)).cell 0).trans (show sgN[0]? = some (.func (.func 62) #[] #[]) from rfl)
     go_simp
   · refine er_q ?vn3 ?hn3 ?kn3 ?gn3 ?_
     case hn3 => exact rfl
     case vn3 => exact (fun R => .agg X)
     case kn3 => exact (fun R => rfl)
     case gn3 => exact gd_none rfl
     intro R s w' hT hs hw ha
     have L := ld_all (P4.sameE hw (fun h => h) (by simp)) uMean rfl iMean hX.s
     generalize hA : putE _ _ _ _ _ _ _ = AA
     refine q_load rfl ?_ L
     subst hA
     kernel_rfl
   · refine er_q ?vn4 ?hn4 ?kn4 ?gn4 ?_
     case hn4 => exact rfl
     case vn4 => exact (fun R => .int .i64 v)
     case kn4 => exact (fun R => rfl)
     case gn4 => exact gd_none rfl
     intro R s w' hT hs hw ha
     go_simp
   · refine er_q ?vn5 ?hn5 ?kn5 ?gn5 ?_
     case hn5 => exact rfl
     case vn5 => exact (fun R => .tuple #[.agg Y, .bool true])
     case kn5 => exact (fun R => rfl)
     case gn5 => exact gd_none rfl
     intro R s w' hT hs hw ha
     go_simp
     exact kx.out w'
   · refine er_q ?vn6 ?hn6 ?kn6 ?gn6 ?_
     case hn6 => exact rfl
     case vn6 => exact (fun R => .tuple #[.agg Y, .bool true])
     case kn6 => exact (fun R => rfl)
     case gn6 => exact gd_none rfl
     intro R s w' hT hs hw ha
     go_simp
   · refine er_q ?vn7 ?hn7 ?kn7 ?gn7 ?_
     case hn7 => exact rfl
     case vn7 => exact (fun R => .agg Y)
     case kn7 => exact (fun R => rfl)
     case gn7 => exact gd_none rfl
     intro R s w' hT hs hw ha
     go_simp
   · refine er_q ?vn8 ?hn8 ?kn8 ?gn8 ?_
     case hn8 => exact rfl
     case vn8 => exact (fun R => .bool true)
     case kn8 => exact (fun R => rfl)
     case gn8 => exact gd_none rfl
     intro R s w' hT hs hw ha
     go_simp
   · refine er_al ?zn9 ?hn9 ?kn9 ?gn9 ?_
     case zn9 => exact (.cells z9m 27 (0, 0))
     case hn9 => exact rfl
     case kn9 => exact rfl
     case gn9 => exact gd_none rfl
     intro ρ w'
     go_simp
     exact ⟨rfl, rfl⟩
   · refine er_st (j := 8) (Ty := ?Tn10) (p := ?pn10) (x := ?xn10) ?fn10 ?zn10 ?vn10 ?hn10 ?on10 ?kn10 ?ln10 ?gn10 ?en10 ?_
     case hn10 => exact rfl
     case on10 => exact rfl
     case fn10 => exact (fun R => (.cells Y 27 (0, 0)))
     case zn10 => exact (.cells z9m 27 (0, 0))
     case vn10 => exact (fun R => .agg Y)
     case kn10 => exact (fun R => rfl)
     case ln10 => exact rfl
     case gn10 => exact gd_none rfl
     case en10 =>
       intro R
       kernel_rfl
     intro R s ρ w g hT hs hp hx hg hz
     exact ⟨store_row rfl hp hx hz iMean (sY) (oY), fun w1 hF => ext_filled hT hF (Nat.le_trans EE.out.size hg)⟩
   · refine er_q ?vn11 ?hn11 ?kn11 ?gn11 ?_
     case hn11 => exact rfl
     case vn11 => exact (fun R => .bool true)
     case kn11 => exact (fun R => rfl)
     case gn11 => exact gd_none rfl
     intro R s w' hT hs hw ha
     go_simp
 case end11 =>
  intro sI R G w12 hI
  have hS := hI.same
  have hTT := hI.holds
  have hz0 := EE.out.size
  replace P3 := P3.sameE hS (fun h => h) (by simp)
  replace P4 := P4.sameE hS (fun h => h) (by simp)
  replace P6 := P6.sameE hS (fun h => h) (by simp)
  have P8 : Blk w12 (G 8) 27 Y := (hI.fulls 9 (List.mem_range.2 (show 9 < 11 by decide)) 8 rfl).2.2
  have hmP8 := (hI.made 8 (List.mem_range.2 (show 8 < 11 by decide)) rfl).1
  have P8_lo : W.heap.size ≤ G 8 := Nat.le_trans hz0 hmP8
  have ngP3_8 : g0 ≠ G 8 := by omega
  have ngP4_8 : g0 + 1 ≠ G 8 := by omega
  have ngP6_8 : g0 + 1 + 1 ≠ G 8 := by omega
  replace EE := hide (show Ext _ _ from hTT)
  clear hS hz0 hTT hI P3_lt P4_lt P6_lt
  generalize hF : putE _ _ _ _ _ _ _ = FF
  have hF2 : FF = { tmps := #[.agg sgN, .agg X, .int .i64 v, .pointer (some ⟨g0, 0, none⟩), .pointer (some ⟨g0 + 1, 0, none⟩), undef, .pointer (some ⟨g0 + 1 + 1, 0, none⟩), .slice none 0 0, .pointer (some ⟨G 8, 0, none⟩), .bool true, .tuple #[.agg Y, .bool true], .pointer (some ⟨g0, 0, none⟩), .func (.func 62) #[] #[], .agg X, .int .i64 v, .tuple #[.agg Y, .bool true], .agg Y, .bool true, undef, undef, undef, undef, undef, undef, undef, undef, undef, undef, undef], defers := [] } := by subst hF; kernel_rfl
  clear hF
  subst hF2
  generalize G 8 = g8 at *
  go_upto_region 2 with fail
  refine wp_region_reads ?_
  repeat (first | go_big_quiet_step (fail) | quiet_step (fail))
  refine wpQuiet_nil ?_
  intro _ hw'
  obtain ⟨⟨dq, osq⟩, hw''⟩ := hw'
  subst hw''
  replace P3 := (P3).ext (ext_regrown w12 dq osq)
  replace P4 := (P4).ext (ext_regrown w12 dq osq)
  replace P6 := (P6).ext (ext_regrown w12 dq osq)
  replace P8 := (P8).ext (ext_regrown w12 dq osq)
  replace EE := hide (EE.out.trans (ext_regrown w12 dq osq))
  obtain ⟨w14, hzq13⟩ : ∃ w, grow (redrawn w12 dq) osq = w := ⟨_, rfl⟩
  rw [hzq13] at EE P3 P4 P6 P8 ⊢
  clear hzq13
  go_upto_region 3 with fail
  have P3_lt := P3.lt
  have P4_lt := P4.lt
  have P6_lt := P6.lt
  have P8_lt := P8.lt
  refine wp_evs [.q, .so 0, .q] [0, 0, 0] (fun R => [.agg Y, undef, .slice none 0 0]) (fun _ => (.cells #[] 0 (0, 0))) (fun R _ => (.cells Y 27 (0, 0))) (fun _ => g0 + 1 + 1) (XE W) (fun _ => False) (by kernel_rfl) (by kernel_rfl) (by kernel_rfl) rfl (fun _ => rfl) (fun _ h => h.elim) (fun _ _ h => h) (by intro c hc; simp at hc; (try subst hc); (try simp only); omega) (by intro c c' h1 h2 _; simp at h1 h2; omega) (fun R R' => ⟨fun _ => rfl, fun _ => rfl, fun _ => rfl, trivial⟩) (fun _ _ _ _ => rfl) xe_below EE.out ?ops17 ?end17
  case ops17 =>
    refine ⟨?_, ?_, ?_, trivial⟩
    · refine er_q ?vn15 ?hn15 ?kn15 ?gn15 ?_
      case hn15 => exact rfl
      case vn15 => exact (fun R => .agg Y)
      case kn15 => exact (fun R => rfl)
      case gn15 => exact gd_none rfl
      intro R s w' hT hs hw ha
      have L := ld_all (P8.sameE hw (fun h => h) (by intro c hc; simp at hc; (try subst hc); (try simp only); omega)) uMean rfl iMean sY
      generalize hA : putE _ _ _ _ _ _ _ = AA
      refine q_load rfl ?_ L
      subst hA
      kernel_rfl
    · refine er_so (c := 0) (Ty := ?Tn16) (p := ?pn16) (x := ?xn16) (g0 + 1 + 1) ?fn16 ?un16 ?vn16 ?hn16 ?on16 ?kn16 ?ln16 ?gn16 ?dn16 ?en16 ?_
      case hn16 => exact rfl
      case on16 => exact rfl
      case fn16 => exact (fun R => (.cells Y 27 (0, 0)))
      case un16 => exact (fun R => .pointer (some ⟨g0 + 1 + 1, 0, none⟩))
      case vn16 => exact (fun R => .agg Y)
      case kn16 => exact (fun R => rfl)
      case ln16 => exact rfl
      case gn16 => exact gd_none rfl
      case dn16 =>
        intro R
        kernel_rfl
      case en16 =>
        intro R
        kernel_rfl
      intro R s ρ w hT hs hp hx hz
      refine ⟨store_rowN (g := (g0 + 1 + 1)) rfl hp hx (hz.trans P6) iMean (rfl) (sY) (oY), fun w1 hF => ext_filled hT hF P6_lo⟩
    · refine er_q ?vn17 ?hn17 ?kn17 ?gn17 ?_
      case hn17 => exact rfl
      case vn17 => exact (fun R => .slice none 0 0)
      case kn17 => exact (fun R => rfl)
      case gn17 => exact gd_none rfl
      intro R s w' hT hs hw ha
      go_simp
  case end17 =>
   intro sI R G w18 hI
   have hS := hI.same
   have hTT := hI.holds
   have hz0 := EE.out.size
   replace P3 := P3.sameE hS (fun h => h) (by intro c hc; simp at hc; (try subst hc); (try simp only); omega)
   replace P4 := P4.sameE hS (fun h => h) (by intro c hc; simp at hc; (try subst hc); (try simp only); omega)
   replace P8 := P8.sameE hS (fun h => h) (by intro c hc; simp at hc; (try subst hc); (try simp only); omega)
   replace P6 : Blk w18 (g0 + 1 + 1) 27 Y := hI.olds' 1 (List.mem_range.2 (show 1 < 3 by decide)) 0 rfl
   replace EE := hide (show Ext _ _ from hTT)
   clear hS hz0 hTT hI P3_lt P4_lt P6_lt P8_lt
   generalize hF : putE _ _ _ _ _ _ _ = FF
   have hF2 : FF = { tmps := #[.agg sgN, .agg X, .int .i64 v, .pointer (some ⟨g0, 0, none⟩), .pointer (some ⟨g0 + 1, 0, none⟩), undef, .pointer (some ⟨g0 + 1 + 1, 0, none⟩), .slice none 0 0, .pointer (some ⟨g8, 0, none⟩), .bool true, .tuple #[.agg Y, .bool true], .pointer (some ⟨g0, 0, none⟩), .func (.func 62) #[] #[], .agg X, .int .i64 v, .tuple #[.agg Y, .bool true], .agg Y, .bool true, .bool true, .agg Y, undef, undef, undef, undef, undef, undef, undef, undef, undef], defers := [] } := by subst hF; kernel_rfl
   clear hF
   subst hF2
   go_wp2_with fail
   exact bodyPost_ret (res2 (p := 6) (u := 7) (ty := 27) rfl _ _ _ 27 Y _ rfl P6 uMean rfl (by rw [sY]; exact iMean)) rfl ⟨none, 0, by kernel_rfl, OwnC.nil_ _ _, EE.out⟩
set_option maxHeartbeats 3200000 in
set_option maxRecDepth 100000 in
theorem p_segN (X S : Array Value) (t c lo hi : Int) (hX : MeX X t c lo hi S) (Y : Array Value) (v : Int) (l : List (Int × Int)) (sY : Y.size = 9) (oY : Y.all (·.oneCell') = true) (kx : Hid (∀ w, Calls Try.prog 62 #[.agg X, .int .i64 v] w (Ret (.tuple #[.agg z9m, .bool false]) w))) (kb : Hid (∀ w, Calls Try.prog 55 #[.agg X, .int .i64 v] w (Ret (.agg Y) w))) (ke : Hid (∀ w, Calls Try.prog 52 #[.agg X] w (CoGet l w))) (W : World) : Calls Try.prog 51 #[.agg sgN, .agg X, .int .i64 v] W (CoPair Y l W) := by
 have he1 : ∀ a w, (callFunc 62 a).run Try.prog w = .ok (.enter 62 a) w := fun a w => by go_simp
 have he2 : ∀ a w, (callFunc 55 a).run Try.prog w = .ok (.enter 55 a) w := fun a w => by go_simp
 have he3 : ∀ a w, (callFunc 52 a).run Try.prog w = .ok (.enter 52 a) w := fun a w => by go_simp
 have P3 := ((Blk.new W 86 sgN).alloc (.cells X 27)).alloc (.cells z9m 27)
 have P4 := (Blk.new (W.alloc (.cells sgN 86)) 27 X).alloc (.cells z9m 27)
 rw [alloc_size] at P4
 have P6 := Blk.new ((W.alloc (.cells sgN 86)).alloc (.cells X 27)) 27 z9m
 simp only [alloc_size] at P6
 have EE := hide (((ext_alloc W (.cells sgN 86)).trans (ext_alloc _ (.cells X 27))).trans (ext_alloc _ (.cells z9m 27)))
 obtain ⟨W1, hW1⟩ : ∃ W1, (((W.alloc (.cells sgN 86)).alloc (.cells X 27)).alloc (.cells z9m 27)) = W1 := ⟨_, rfl⟩
 obtain ⟨g0, hg⟩ : ∃ g, W.heap.size = g := ⟨_, rfl⟩
 rw [hW1] at P3 P4 P6 EE
 rw [hg] at P3 P4 P6
 have P3_lo : W.heap.size ≤ g0 := by omega
 have P4_lo : W.heap.size ≤ g0 + 1 := by omega
 have P6_lo : W.heap.size ≤ g0 + 1 + 1 := by omega
 have HW := hide hW1
 have Hg := hide hg
 clear hW1 hg
 go_enter Try.func51, Try.ntmps51
 go_upto_region 1 with fail
 unfold z9m at HW
 rw [HW.out, Hg.out]
 clear HW Hg
 have P3_lt := P3.lt
 have P4_lt := P4.lt
 have P6_lt := P6.lt
 refine wp_evs [.q, .q, .q, .q, .q, .q, .q, .q, .al, .st 8, .q] [0, 0, 0, 0, 0, 0, 0, 0, 0, 0, 0] (fun R => [.pointer (some ⟨g0, 0, none⟩), .func (.func 62) #[] #[], .agg X, .int .i64 v, .tuple #[.agg z9m, .bool false], .tuple #[.agg z9m, .bool false], .agg z9m, .bool false, undef, undef, .bool false]) (fun _ => (.cells z9m 27 (0, 0))) (fun R _ => (.cells z9m 27 (0, 0))) (fun _ => 0) (XE W) (fun _ => False) (by kernel_rfl) (by kernel_rfl) (by kernel_rfl) rfl (fun _ => rfl) (fun _ h => h.elim) (fun _ _ h => h) (by simp) (by simp) (fun R R' => ⟨fun _ => rfl, fun _ => rfl, fun _ => rfl, fun _ => rfl, fun _ => rfl, fun _ => rfl, fun _ => rfl, fun _ => rfl, fun _ => rfl, fun _ => rfl, fun _ => rfl, trivial⟩) (fun _ _ _ _ => rfl) xe_below EE.out ?ops11 ?end11
 case ops11 =>
   refine ⟨?_, ?_, ?_, ?_, ?_, ?_, ?_, ?_, ?_, ?_, ?_, trivial⟩
   · refine er_q ?vn1 ?hn1 ?kn1 ?gn1 ?_
     case hn1 => exact rfl
     case vn1 => exact (fun R => .pointer (some ⟨g0, 0, none⟩))
     case kn1 => exact (fun R => rfl)
     case gn1 => exact gd_none rfl
     intro R s w' hT hs hw ha
     go_simp
   · refine er_q ?vn2 ?hn2 ?kn2 ?gn2 ?_
     case hn2 => exact rfl
     case vn2 => exact (fun R => .func (.func 62) #[] #[])
     case kn2 => exact (fun R => rfl)
     case gn2 => exact gd_none rfl
     intro R s w' hT hs hw ha
     have cc := ((show Blk w' g0 _ sgN from P3.sameE hw (fun h => h) (by simp)).cell 0).trans (show sgN[0]? = some (.func (.func 62) #[] #[]) from rfl)
     go_simp
   · refine er_q ?vn3 ?hn3 ?kn3 ?gn3 ?_
     case hn3 => exact rfl
     case vn3 => exact (fun R => .agg X)
     case kn3 => exact (fun R => rfl)
     case gn3 => exact gd_none rfl
     intro R s w' hT hs hw ha
     have L := ld_all (P4.sameE hw (fun h => h) (by simp)) uMean rfl iMean hX.s
     generalize hA : putE _ _ _ _ _ _ _ = AA
     refine q_load rfl ?_ L
     subst hA
     kernel_rfl
   · refine er_q ?vn4 ?hn4 ?kn4 ?gn4 ?_
     case hn4 => exact rfl
     case vn4 => exact (fun R => .int .i64 v)
     case kn4 => exact (fun R => rfl)
     case gn4 => exact gd_none rfl
     intro R s w' hT hs hw ha
     go_simp
   · refine er_q ?vn5 ?hn5 ?kn5 ?gn5 ?_
     case hn5 => exact rfl
     case vn5 => exact (fun R => .tuple #[.agg z9m, .bool false])
     case kn5 => exact (fun R => rfl)
     case gn5 => exact gd_none rfl
     intro R s w' hT hs hw ha
     go_simp
     exact kx.out w'
   · refine er_q ?vn6 ?hn6 ?kn6 ?gn6 ?_
     case hn6 => exact rfl
     case vn6 => exact (fun R => .tuple #[.agg z9m, .bool false])
     case kn6 => exact (fun R => rfl)
     case gn6 => exact gd_none rfl
     intro R s w' hT hs hw ha
     go_simp
   · refine er_q ?vn7 ?hn7 ?kn7 ?gn7 ?_
     case hn7 => exact rfl
     case vn7 => exact (fun R => .agg z9m)
     case kn7 => exact (fun R => rfl)
     case gn7 => exact gd_none rfl
     intro R s w' hT hs hw ha
     go_simp
   · refine er_q ?vn8 ?hn8 ?kn8 ?gn8 ?_
     case hn8 => exact rfl
     case vn8 => exact (fun R => .bool false)
     case kn8 => exact (fun R => rfl)
     case gn8 => exact gd_none rfl
     intro R s w' hT hs hw ha
     go_simp
   · refine er_al ?zn9 ?hn9 ?kn9 ?gn9 ?_
     case zn9 => exact (.cells z9m 27 (0, 0))
     case hn9 => exact rfl
     case kn9 => exact rfl
     case gn9 => exact gd_none rfl
     intro ρ w'
     go_simp
     exact ⟨rfl, rfl⟩
   · refine er_st (j := 8) (Ty := ?Tn10) (p := ?pn10) (x := ?xn10) ?fn10 ?zn10 ?vn10 ?hn10 ?on10 ?kn10 ?ln10 ?gn10 ?en10 ?_
     case hn10 => exact rfl
     case on10 => exact rfl
     case fn10 => exact (fun R => (.cells z9m 27 (0, 0)))
     case zn10 => exact (.cells z9m 27 (0, 0))
     case vn10 => exact (fun R => .agg z9m)
     case kn10 => exact (fun R => rfl)
     case ln10 => exact rfl
     case gn10 => exact gd_none rfl
     case en10 =>
       intro R
       kernel_rfl
     intro R s ρ w g hT hs hp hx hg hz
     exact ⟨store_row rfl hp hx hz iMean (rfl) (z9m_one), fun w1 hF => ext_filled hT hF (Nat.le_trans EE.out.size hg)⟩
   · refine er_q ?vn11 ?hn11 ?kn11 ?gn11 ?_
     case hn11 => exact rfl
     case vn11 => exact (fun R => .bool false)
     case kn11 => exact (fun R => rfl)
     case gn11 => exact gd_none rfl
     intro R s w' hT hs hw ha
     go_simp
 case end11 =>
  intro sI R G w12 hI
  have hS := hI.same
  have hTT := hI.holds
  have hz0 := EE.out.size
  replace P3 := P3.sameE hS (fun h => h) (by simp)
  replace P4 := P4.sameE hS (fun h => h) (by simp)
  replace P6 := P6.sameE hS (fun h => h) (by simp)
  have P8 : Blk w12 (G 8) 27 z9m := (hI.fulls 9 (List.mem_range.2 (show 9 < 11 by decide)) 8 rfl).2.2
  have hmP8 := (hI.made 8 (List.mem_range.2 (show 8 < 11 by decide)) rfl).1
  have P8_lo : W.heap.size ≤ G 8 := Nat.le_trans hz0 hmP8
  have ngP3_8 : g0 ≠ G 8 := by omega
  have ngP4_8 : g0 + 1 ≠ G 8 := by omega
  have ngP6_8 : g0 + 1 + 1 ≠ G 8 := by omega
  replace EE := hide (show Ext _ _ from hTT)
  clear hS hz0 hTT hI P3_lt P4_lt P6_lt
  generalize hF : putE _ _ _ _ _ _ _ = FF
  have hF2 : FF = { tmps := #[.agg sgN, .agg X, .int .i64 v, .pointer (some ⟨g0, 0, none⟩), .pointer (some ⟨g0 + 1, 0, none⟩), undef, .pointer (some ⟨g0 + 1 + 1, 0, none⟩), .slice none 0 0, .pointer (some ⟨G 8, 0, none⟩), .bool false, .tuple #[.agg z9m, .bool false], .pointer (some ⟨g0, 0, none⟩), .func (.func 62) #[] #[], .agg X, .int .i64 v, .tuple #[.agg z9m, .bool false], .agg z9m, .bool false, undef, undef, undef, undef, undef, undef, undef, undef, undef, undef, undef], defers := [] } := by subst hF; kernel_rfl
  clear hF
  subst hF2
  generalize G 8 = g8 at *
  go_upto_region 2 with fail
  refine wp_region_reads ?_
  repeat (first | go_big_quiet_step (fail) | quiet_step (fail))
  refine wpQuiet_nil ?_
  intro _ hw'
  obtain ⟨⟨dq, osq⟩, hw''⟩ := hw'
  subst hw''
  replace P3 := (P3).ext (ext_regrown w12 dq osq)
  replace P4 := (P4).ext (ext_regrown w12 dq osq)
  replace P6 := (P6).ext (ext_regrown w12 dq osq)
  replace P8 := (P8).ext (ext_regrown w12 dq osq)
  replace EE := hide (EE.out.trans (ext_regrown w12 dq osq))
  obtain ⟨w14, hzq13⟩ : ∃ w, grow (redrawn w12 dq) osq = w := ⟨_, rfl⟩
  rw [hzq13] at EE P3 P4 P6 P8 ⊢
  clear hzq13
  go_upto_region 4 with fail
  have P3_lt := P3.lt
  have P4_lt := P4.lt
  have P6_lt := P6.lt
  have P8_lt := P8.lt
  refine wp_ev [.q, .q, .q, .q, .q, .q, .q, .q, .ev 0, .so 0, .q] [0, 0, 0, 0, 0, 0, 0, 0, 0, 0, 1] (fun R => [.pointer (some ⟨g0, 1, none⟩), .func (.func 55) #[] #[], .agg X, .int .i64 v, .agg Y, .pointer (some ⟨g0, 2, none⟩), .func (.func 52) #[] #[], .agg X, undef, undef, (R 0)]) (fun _ => (.cells #[] 0 (0, 0))) (fun R _ => (.cells Y 27 (0, 0))) (fun _ => g0 + 1 + 1) (CS W l) (fun _ => False) (by kernel_rfl) (by kernel_rfl) (by kernel_rfl) (by kernel_rfl) rfl (fun _ => rfl) (fun _ h => h.elim) (fun _ _ h => h) (by intro c hc; simp at hc; (try subst hc); (try simp only); omega) (by intro c c' h1 h2 _; simp at h1 h2; omega) (fun R R' => ⟨fun _ => rfl, fun _ => rfl, fun _ => rfl, fun _ => rfl, fun _ => rfl, fun _ => rfl, fun _ => rfl, fun _ => rfl, fun _ => rfl, fun _ => rfl, fun h => by simp only [h 0 (by decide)], trivial⟩) (fun _ _ _ _ => rfl) cs_below ⟨EE.out.trans (ext_drew _), fun h => absurd h (by decide)⟩ ?ops25 ?end25
  case ops25 =>
    refine ⟨?_, ?_, ?_, ?_, ?_, ?_, ?_, ?_, ?_, ?_, ?_, trivial⟩
    · refine er_q ?vn15 ?hn15 ?kn15 ?gn15 ?_
      case hn15 => exact rfl
      case vn15 => exact (fun R => .pointer (some ⟨g0, 1, none⟩))
      case kn15 => exact (fun R => rfl)
      case gn15 => exact gd_none rfl
      intro R s w' hT hs hw ha
      go_simp
    · refine er_q ?vn16 ?hn16 ?kn16 ?gn16 ?_
      case hn16 => exact rfl
      case vn16 => exact (fun R => .func (.func 55) #[] #[])
      case kn16 => exact (fun R => rfl)
      case gn16 => exact gd_none rfl
      intro R s w' hT hs hw ha
      have cc := ((show Blk w' g0 _ sgN from P3.sameE hw (fun h => h) (by intro c hc; simp at hc; (try subst hc); (try simp only); omega)).cell 1).trans (show sgN[1]? = some (.func (.func 55) #[] #[]) from rfl)
      go_simp
    · refine er_q ?vn17 ?hn17 ?kn17 ?gn17 ?_
      case hn17 => exact rfl
      case vn17 => exact (fun R => .agg X)
      case kn17 => exact (fun R => rfl)
      case gn17 => exact gd_none rfl
      intro R s w' hT hs hw ha
      have L := ld_all (P4.sameE hw (fun h => h) (by intro c hc; simp at hc; (try subst hc); (try simp only); omega)) uMean rfl iMean hX.s
      generalize hA : putE _ _ _ _ _ _ _ = AA
      refine q_load rfl ?_ L
      subst hA
      kernel_rfl
    · refine er_q ?vn18 ?hn18 ?kn18 ?gn18 ?_
      case hn18 => exact rfl
      case vn18 => exact (fun R => .int .i64 v)
      case kn18 => exact (fun R => rfl)
      case gn18 => exact gd_none rfl
      intro R s w' hT hs hw ha
      go_simp
    · refine er_q ?vn19 ?hn19 ?kn19 ?gn19 ?_
      case hn19 => exact rfl
      case vn19 => exact (fun R => .agg Y)
      case kn19 => exact (fun R => rfl)
      case gn19 => exact gd_none rfl
      intro R s w' hT hs hw ha
      go_simp
      exact kb.out w'
    · refine er_q ?vn20 ?hn20 ?kn20 ?gn20 ?_
      case hn20 => exact rfl
      case vn20 => exact (fun R => .pointer (some ⟨g0, 2, none⟩))
      case kn20 => exact (fun R => rfl)
      case gn20 => exact gd_none rfl
      intro R s w' hT hs hw ha
      go_simp
    · refine er_q ?vn21 ?hn21 ?kn21 ?gn21 ?_
      case hn21 => exact rfl
      case vn21 => exact (fun R => .func (.func 52) #[] #[])
      case kn21 => exact (fun R => rfl)
      case gn21 => exact gd_none rfl
      intro R s w' hT hs hw ha
      have cc := ((show Blk w' g0 _ sgN from P3.sameE hw (fun h => h) (by intro c hc; simp at hc; (try subst hc); (try simp only); omega)).cell 2).trans (show sgN[2]? = some (.func (.func 52) #[] #[]) from rfl)
      go_simp
    · refine er_q ?vn22 ?hn22 ?kn22 ?gn22 ?_
      case hn22 => exact rfl
      case vn22 => exact (fun R => .agg X)
      case kn22 => exact (fun R => rfl)
      case gn22 => exact gd_none rfl
      intro R s w' hT hs hw ha
      have L := ld_all (P4.sameE hw (fun h => h) (by intro c hc; simp at hc; (try subst hc); (try simp only); omega)) uMean rfl iMean hX.s
      generalize hA : putE _ _ _ _ _ _ _ = AA
      refine q_load rfl ?_ L
      subst hA
      kernel_rfl
    · refine er_ev (m := 0) ?hn23 ?gn23 ?_
      case hn23 => exact rfl
      case gn23 => exact gd_none rfl
      intro R w' hT hw
      go_simp
      refine (ke.out _).mono ?_
      rintro e w2 ⟨A1, k1, rfl, hO, hE⟩
      exact ⟨_, rfl, cs_ev hT hO hE⟩
    · refine er_so (c := 0) (Ty := ?Tn24) (p := ?pn24) (x := ?xn24) (g0 + 1 + 1) ?fn24 ?un24 ?vn24 ?hn24 ?on24 ?kn24 ?ln24 ?gn24 ?dn24 ?en24 ?_
      case hn24 => exact rfl
      case on24 => exact rfl
      case fn24 => exact (fun R => (.cells Y 27 (0, 0)))
      case un24 => exact (fun R => .pointer (some ⟨g0 + 1 + 1, 0, none⟩))
      case vn24 => exact (fun R => .agg Y)
      case kn24 => exact (fun R => rfl)
      case ln24 => exact rfl
      case gn24 => exact gd_none rfl
      case dn24 =>
        intro R
        kernel_rfl
      case en24 =>
        intro R
        kernel_rfl
      intro R s ρ w hT hs hp hx hz
      refine ⟨store_rowN (g := (g0 + 1 + 1)) rfl hp hx (hz.trans P6) iMean (rfl) (sY) (oY), fun w1 hF => cs_filled hT hF P6_lo (hz.trans P6) (by decide)⟩
    · refine er_q ?vn25 ?hn25 ?kn25 ?gn25 ?_
      case hn25 => exact rfl
      case vn25 => exact (fun R => (R 0))
      case kn25 => exact (fun R => rfl)
      case gn25 => exact gd_none rfl
      intro R s w' hT hs hw ha
      go_simp
  case end25 =>
   intro sI R G w26 hI
   have hS := hI.same
   have hTT := hI.holds
   have hz0 := EE.out.size
   have hs0 : 0 < sI := (hI.stage 8 (show 8 < 11 by decide) 0 rfl).1 (List.mem_range.2 (show 8 < 11 by decide))
   obtain ⟨A1, k1, e1, O1⟩ := hTT.2 hs0
   replace P3 := P3.sameE hS (fun h => h) (by intro c hc; simp at hc; (try subst hc); (try simp only); omega)
   replace P4 := P4.sameE hS (fun h => h) (by intro c hc; simp at hc; (try subst hc); (try simp only); omega)
   replace P8 := P8.sameE hS (fun h => h) (by intro c hc; simp at hc; (try subst hc); (try simp only); omega)
   replace P6 : Blk w26 (g0 + 1 + 1) 27 Y := hI.olds' 9 (List.mem_range.2 (show 9 < 11 by decide)) 0 rfl
   replace EE := hide hTT.1
   clear hS hz0 hTT hI P3_lt P4_lt P6_lt P8_lt
   generalize hF : putE _ _ _ _ _ _ _ = FF
   have hF2 : FF = { tmps := #[.agg sgN, .agg X, .int .i64 v, .pointer (some ⟨g0, 0, none⟩), .pointer (some ⟨g0 + 1, 0, none⟩), undef, .pointer (some ⟨g0 + 1 + 1, 0, none⟩), (R 0), .pointer (some ⟨g8, 0, none⟩), .bool false, .tuple #[.agg z9m, .bool false], .pointer (some ⟨g0, 0, none⟩), .func (.func 62) #[] #[], .agg X, .int .i64 v, .tuple #[.agg z9m, .bool false], .agg z9m, .bool false, .bool false, undef, .pointer (some ⟨g0, 1, none⟩), .func (.func 55) #[] #[], .agg X, .int .i64 v, .agg Y, .pointer (some ⟨g0, 2, none⟩), .func (.func 52) #[] #[], .agg X, (R 0)], defers := [] } := by subst hF; kernel_rfl
   clear hF
   subst hF2
   (try simp only [e1])
   have O1 := hide O1
   go_wp2_with fail
   exact bodyPost_ret (res2 (p := 6) (u := 7) (ty := 27) rfl _ _ _ 27 Y _ rfl P6 uMean rfl (by rw [sY]; exact iMean)) rfl ⟨A1, k1, by kernel_rfl, O1.out, EE.out⟩
set_option maxHeartbeats 3200000 in
set_option maxRecDepth 100000 in
theorem p_stepIe (X S : Array Value) (t c lo hi : Int) (hX : MeX X t c lo hi S) (v : Int) (kv : Hid (∀ w, Calls Try.prog 38 #[.agg X] w (Ret (.bool false) w))) (W : World) : Calls Try.prog 35 #[.agg X, .int .i64 v] W (Ret (.tuple #[.agg z9m, .slice none 0 0, .int .i64 1]) W) := by
 have P2 := (Blk.new W 27 X).alloc (.cells z9m 27)
 have P4 := Blk.new (W.alloc (.cells X 27)) 27 z9m
 rw [alloc_size] at P4
 have EE := hide ((ext_alloc W (.cells X 27)).trans (ext_alloc _ (.cells z9m 27)))
 obtain ⟨W1, hW1⟩ : ∃ W1, ((W.alloc (.cells X 27)).alloc (.cells z9m 27)) = W1 := ⟨_, rfl⟩
 obtain ⟨g0, hg⟩ : ∃ g, W.heap.size = g := ⟨_, rfl⟩
 rw [hW1] at P2 P4 EE
 rw [hg] at P2 P4
 have P2_lo : W.heap.size ≤ g0 := by omega
 have P4_lo : W.heap.size ≤ g0 + 1 := by omega
 have HW := hide hW1
 have Hg := hide hg
 clear hW1 hg
 go_enter Try.func35, Try.ntmps35
 go_upto_region 1 with fail
 unfold z9m at HW
 rw [HW.out, Hg.out]
 clear HW Hg
 refine wp_region_reads ?_
 repeat (first | go_big_quiet_step (first | with_reducible exact quiet_ret (kv.out _)) | (refine wq_load (by kernel_rfl) rfl rfl (fun w hw => by obtain ⟨⟨d, os⟩, rfl⟩ := hw; exact ld_all ((P2).ext (ext_regrown W1 d os)) uMean rfl iMean hX.s) ?_) | quiet_step (first | with_reducible exact quiet_ret (kv.out _)))
 refine wpQuiet_nil ?_
 intro _ hw'
 obtain ⟨⟨dq, osq⟩, hw''⟩ := hw'
 subst hw''
 replace P2 := (P2).ext (ext_regrown W1 dq osq)
 replace P4 := (P4).ext (ext_regrown W1 dq osq)
 replace EE := hide (EE.out.trans (ext_regrown W1 dq osq))
 obtain ⟨w2, hzq1⟩ : ∃ w, grow (redrawn W1 dq) osq = w := ⟨_, rfl⟩
 rw [hzq1] at EE P2 P4 ⊢
 clear hzq1
 go_upto_region 2 with fail
 have P2_lt := P2.lt
 have P4_lt := P4.lt
 refine wp_evs [.q, .so 0, .q, .q] [0, 0, 0, 0] (fun R => [.agg z9m, undef, .slice none 0 0, .int .i64 1]) (fun _ => (.cells #[] 0 (0, 0))) (fun R _ => (.cells z9m 27 (0, 0))) (fun _ => g0 + 1) (XE W) (fun _ => False) (by kernel_rfl) (by kernel_rfl) (by kernel_rfl) rfl (fun _ => rfl) (fun _ h => h.elim) (fun _ _ h => h) (by intro c hc; simp at hc; (try subst hc); (try simp only); omega) (by intro c c' h1 h2 _; simp at h1 h2; omega) (fun R R' => ⟨fun _ => rfl, fun _ => rfl, fun _ => rfl, fun _ => rfl, trivial⟩) (fun _ _ _ _ => rfl) xe_below EE.out ?ops6 ?end6
 case ops6 =>
   refine ⟨?_, ?_, ?_, ?_, trivial⟩
   · refine er_q ?vn3 ?hn3 ?kn3 ?gn3 ?_
     case hn3 => exact rfl
     case vn3 => exact (fun R => .agg z9m)
     case kn3 => exact (fun R => rfl)
     case gn3 => exact gd_none rfl
     intro R s w' hT hs hw ha
     generalize hA : putE _ _ _ _ _ _ _ = AA
     refine q_buildM (vs := #[]) rfl ?_ (b_me0)
     subst hA
     kernel_rfl
   · refine er_so (c := 0) (Ty := ?Tn4) (p := ?pn4) (x := ?xn4) (g0 + 1) ?fn4 ?un4 ?vn4 ?hn4 ?on4 ?kn4 ?ln4 ?gn4 ?dn4 ?en4 ?_
     case hn4 => exact rfl
     case on4 => exact rfl
     case fn4 => exact (fun R => (.cells z9m 27 (0, 0)))
     case un4 => exact (fun R => .pointer (some ⟨g0 + 1, 0, none⟩))
     case vn4 => exact (fun R => .agg z9m)
     case kn4 => exact (fun R => rfl)
     case ln4 => exact rfl
     case gn4 => exact gd_none rfl
     case dn4 =>
       intro R
       kernel_rfl
     case en4 =>
       intro R
       kernel_rfl
     intro R s ρ w hT hs hp hx hz
     refine ⟨store_rowN (g := (g0 + 1)) rfl hp hx (hz.trans P4) iMean (rfl) (rfl) (z9m_one), fun w1 hF => ext_filled hT hF P4_lo⟩
   · refine er_q ?vn5 ?hn5 ?kn5 ?gn5 ?_
     case hn5 => exact rfl
     case vn5 => exact (fun R => .slice none 0 0)
     case kn5 => exact (fun R => rfl)
     case gn5 => exact gd_none rfl
     intro R s w' hT hs hw ha
     go_simp
   · refine er_q ?vn6 ?hn6 ?kn6 ?gn6 ?_
     case hn6 => exact rfl
     case vn6 => exact (fun R => .int .i64 1)
     case kn6 => exact (fun R => rfl)
     case gn6 => exact gd_none rfl
     intro R s w' hT hs hw ha
     go_simp
 case end6 =>
  intro sI R G w7 hI
  have hS := hI.same
  have hTT := hI.holds
  have hz0 := EE.out.size
  replace P2 := P2.sameE hS (fun h => h) (by intro c hc; simp at hc; (try subst hc); (try simp only); omega)
  replace P4 : Blk w7 (g0 + 1) 27 z9m := hI.olds' 1 (List.mem_range.2 (show 1 < 4 by decide)) 0 rfl
  replace EE := hide (show Ext _ _ from hTT)
  clear hS hz0 hTT hI P2_lt P4_lt
  generalize hF : putE _ _ _ _ _ _ _ = FF
  have hF2 : FF = { tmps := #[.agg X, .int .i64 v, .pointer (some ⟨g0, 0, none⟩), undef, .pointer (some ⟨g0 + 1, 0, none⟩), .slice none 0 0, .int .i64 1, undef, undef, .bool true, .agg X, .bool false, .bool true, .agg z9m, undef, undef, undef, undef, undef, undef, undef, undef, undef, undef, undef, undef, undef, undef], defers := [] } := by subst hF; kernel_rfl
  clear hF
  subst hF2
  go_wp2_with fail
  exact bodyPost_ret (res3 (p := 4) (u := 5) (u2 := 6) (ty := 27) rfl _ _ _ 27 z9m _ rfl P4 uMean rfl iMean) rfl ⟨by kernel_rfl, EE.out⟩
set_option maxHeartbeats 3200000 in
set_option maxRecDepth 100000 in
theorem p_stepLe (X S : Array Value) (t c lo hi : Int) (hX : MeX X t c lo hi S) (v : Int) (kv : Hid (∀ w, Calls Try.prog 38 #[.agg X] w (Ret (.bool true) w))) (d1 : (c == 1073741824) = true) (W : World) : Calls Try.prog 35 #[.agg X, .int .i64 v] W (Ret (.tuple #[.agg z9m, .slice none 0 0, .int .i64 3]) W) := by
 have P2 := (Blk.new W 27 X).alloc (.cells z9m 27)
 have P4 := Blk.new (W.alloc (.cells X 27)) 27 z9m
 rw [alloc_size] at P4
 have EE := hide ((ext_alloc W (.cells X 27)).trans (ext_alloc _ (.cells z9m 27)))
 obtain ⟨W1, hW1⟩ : ∃ W1, ((W.alloc (.cells X 27)).alloc (.cells z9m 27)) = W1 := ⟨_, rfl⟩
 obtain ⟨g0, hg⟩ : ∃ g, W.heap.size = g := ⟨_, rfl⟩
 rw [hW1] at P2 P4 EE
 rw [hg] at P2 P4
 have P2_lo : W.heap.size ≤ g0 := by omega
 have P4_lo : W.heap.size ≤ g0 + 1 := by omega
 have HW := hide hW1
 have Hg := hide hg
 clear hW1 hg
 go_enter Try.func35, Try.ntmps35
 go_upto_region 1 with fail
 unfold z9m at HW
 rw [HW.out, Hg.out]
 clear HW Hg
 refine wp_region_reads ?_
 repeat (first | go_big_quiet_step (first | with_reducible exact quiet_ret (kv.out _)) | (refine wq_load (by kernel_rfl) rfl rfl (fun w hw => by obtain ⟨⟨d, os⟩, rfl⟩ := hw; exact ld_all ((P2).ext (ext_regrown W1 d os)) uMean rfl iMean hX.s) ?_) | quiet_step (first | with_reducible exact quiet_ret (kv.out _)))
 refine wpQuiet_nil ?_
 intro _ hw'
 obtain ⟨⟨dq, osq⟩, hw''⟩ := hw'
 subst hw''
 replace P2 := (P2).ext (ext_regrown W1 dq osq)
 replace P4 := (P4).ext (ext_regrown W1 dq osq)
 replace EE := hide (EE.out.trans (ext_regrown W1 dq osq))
 obtain ⟨w2, hzq1⟩ : ∃ w, grow (redrawn W1 dq) osq = w := ⟨_, rfl⟩
 rw [hzq1] at EE P2 P4 ⊢
 clear hzq1
 go_upto_region 3 with fail
 have cq3_0 := fun d os => (((P2).ext (ext_regrown w2 d os)).cell 1).trans (hX.x1)
 refine wp_region_reads ?_
 repeat (first | go_big_quiet_step (fail) | quiet_step (fail))
 refine wpQuiet_nil ?_
 intro _ hw'
 obtain ⟨⟨dq, osq⟩, hw''⟩ := hw'
 subst hw''
 replace P2 := (P2).ext (ext_regrown w2 dq osq)
 replace P4 := (P4).ext (ext_regrown w2 dq osq)
 replace EE := hide (EE.out.trans (ext_regrown w2 dq osq))
 obtain ⟨w4, hzq3⟩ : ∃ w, grow (redrawn w2 dq) osq = w := ⟨_, rfl⟩
 rw [hzq3] at EE P2 P4 ⊢
 clear hzq3 cq3_0
 go_upto_region 4 with fail
 have P2_lt := P2.lt
 have P4_lt := P4.lt
 refine wp_evs [.q, .so 0, .q, .q] [0, 0, 0, 0] (fun R => [.agg z9m, undef, .slice none 0 0, .int .i64 3]) (fun _ => (.cells #[] 0 (0, 0))) (fun R _ => (.cells z9m 27 (0, 0))) (fun _ => g0 + 1) (XE W) (fun _ => False) (by kernel_rfl) (by kernel_rfl) (by kernel_rfl) rfl (fun _ => rfl) (fun _ h => h.elim) (fun _ _ h => h) (by intro c hc; simp at hc; (try subst hc); (try simp only); omega) (by intro c c' h1 h2 _; simp at h1 h2; omega) (fun R R' => ⟨fun _ => rfl, fun _ => rfl, fun _ => rfl, fun _ => rfl, trivial⟩) (fun _ _ _ _ => rfl) xe_below EE.out ?ops8 ?end8
 case ops8 =>
   refine ⟨?_, ?_, ?_, ?_, trivial⟩
   · refine er_q ?vn5 ?hn5 ?kn5 ?gn5 ?_
     case hn5 => exact rfl
     case vn5 => exact (fun R => .agg z9m)
     case kn5 => exact (fun R => rfl)
     case gn5 => exact gd_none rfl
     intro R s w' hT hs hw ha
     generalize hA : putE _ _ _ _ _ _ _ = AA
     refine q_buildM (vs := #[]) rfl ?_ (b_me0)
     subst hA
     kernel_rfl
   · refine er_so (c := 0) (Ty := ?Tn6) (p := ?pn6) (x := ?xn6) (g0 + 1) ?fn6 ?un6 ?vn6 ?hn6 ?on6 ?kn6 ?ln6 ?gn6 ?dn6 ?en6 ?_
     case hn6 => exact rfl
     case on6 => exact rfl
     case fn6 => exact (fun R => (.cells z9m 27 (0, 0)))
     case un6 => exact (fun R => .pointer (some ⟨g0 + 1, 0, none⟩))
     case vn6 => exact (fun R => .agg z9m)
     case kn6 => exact (fun R => rfl)
     case ln6 => exact rfl
     case gn6 => exact gd_none rfl
     case dn6 =>
       intro R
       kernel_rfl
     case en6 =>
       intro R
       kernel_rfl
     intro R s ρ w hT hs hp hx hz
     refine ⟨store_rowN (g := (g0 + 1)) rfl hp hx (hz.trans P4) iMean (rfl) (rfl) (z9m_one), fun w1 hF => ext_filled hT hF P4_lo⟩
   · refine er_q ?vn7 ?hn7 ?kn7 ?gn7 ?_
     case hn7 => exact rfl
     case vn7 => exact (fun R => .slice none 0 0)
     case kn7 => exact (fun R => rfl)
     case gn7 => exact gd_none rfl
     intro R s w' hT hs hw ha
     go_simp
   · refine er_q ?vn8 ?hn8 ?kn8 ?gn8 ?_
     case hn8 => exact rfl
     case vn8 => exact (fun R => .int .i64 3)
     case kn8 => exact (fun R => rfl)
     case gn8 => exact gd_none rfl
     intro R s w' hT hs hw ha
     go_simp
 case end8 =>
  intro sI R G w9 hI
  have hS := hI.same
  have hTT := hI.holds
  have hz0 := EE.out.size
  replace P2 := P2.sameE hS (fun h => h) (by intro c hc; simp at hc; (try subst hc); (try simp only); omega)
  replace P4 : Blk w9 (g0 + 1) 27 z9m := hI.olds' 1 (List.mem_range.2 (show 1 < 4 by decide)) 0 rfl
  replace EE := hide (show Ext _ _ from hTT)
  clear hS hz0 hTT hI P2_lt P4_lt
  generalize hF : putE _ _ _ _ _ _ _ = FF
  have hF2 : FF = { tmps := #[.agg X, .int .i64 v, .pointer (some ⟨g0, 0, none⟩), undef, .pointer (some ⟨g0 + 1, 0, none⟩), .slice none 0 0, .int .i64 3, undef, undef, .bool false, .agg X, .bool true, .bool false, undef, .bool true, .pointer (some ⟨g0, 1, none⟩), .int .i64 c, .bool true, .agg z9m, undef, undef, undef, undef, undef, undef, undef, undef, undef], defers := [] } := by subst hF; kernel_rfl
  clear hF
  subst hF2
  go_wp2_with fail
  exact bodyPost_ret (res3 (p := 4) (u := 5) (u2 := 6) (ty := 27) rfl _ _ _ 27 z9m _ rfl P4 uMean rfl iMean) rfl ⟨by kernel_rfl, EE.out⟩
set_option maxHeartbeats 3200000 in
set_option maxRecDepth 100000 in
theorem p_stepKe (X S : Array Value) (t c lo hi : Int) (hX : MeX X t c lo hi S) (Y : Array Value) (v : Int) (l : List (Int × Int)) (sY : Y.size = 9) (oY : Y.all (·.oneCell') = true) (d0 : (c == 1073741824) = false) (kv : Hid (∀ w, Calls Try.prog 38 #[.agg X] w (Ret (.bool true) w))) (ks : Hid (∀ w, Calls Try.prog 51 #[.agg sgN, .agg X, .int .i64 v] w (CoPair Y l w))) (W : World) : Calls Try.prog 35 #[.agg X, .int .i64 v] W (CoTrip Y l 0 W) := by
 have km := hide fun w => p_means w
 have P2 := (Blk.new W 27 X).alloc (.cells z9m 27)
 have P4 := Blk.new (W.alloc (.cells X 27)) 27 z9m
 rw [alloc_size] at P4
 have EE := hide ((ext_alloc W (.cells X 27)).trans (ext_alloc _ (.cells z9m 27)))
 obtain ⟨W1, hW1⟩ : ∃ W1, ((W.alloc (.cells X 27)).alloc (.cells z9m 27)) = W1 := ⟨_, rfl⟩
 obtain ⟨g0, hg⟩ : ∃ g, W.heap.size = g := ⟨_, rfl⟩
 rw [hW1] at P2 P4 EE
 rw [hg] at P2 P4
 have P2_lo : W.heap.size ≤ g0 := by omega
 have P4_lo : W.heap.size ≤ g0 + 1 := by omega
 have HW := hide hW1
 have Hg := hide hg
 clear hW1 hg
 go_enter Try.func35, Try.ntmps35
 go_upto_region 1 with fail
 unfold z9m at HW
 rw [HW.out, Hg.out]
 clear HW Hg
 refine wp_region_reads ?_
 repeat (first | go_big_quiet_step (first | with_reducible exact quiet_ret (kv.out _)) | (refine wq_load (by kernel_rfl) rfl rfl (fun w hw => by obtain ⟨⟨d, os⟩, rfl⟩ := hw; exact ld_all ((P2).ext (ext_regrown W1 d os)) uMean rfl iMean hX.s) ?_) | quiet_step (first | with_reducible exact quiet_ret (kv.out _)))
 refine wpQuiet_nil ?_
 intro _ hw'
 obtain ⟨⟨dq, osq⟩, hw''⟩ := hw'
 subst hw''
 replace P2 := (P2).ext (ext_regrown W1 dq osq)
 replace P4 := (P4).ext (ext_regrown W1 dq osq)
 replace EE := hide (EE.out.trans (ext_regrown W1 dq osq))
 obtain ⟨w2, hzq1⟩ : ∃ w, grow (redrawn W1 dq) osq = w := ⟨_, rfl⟩
 rw [hzq1] at EE P2 P4 ⊢
 clear hzq1
 go_upto_region 3 with fail
 have cq3_0 := fun d os => (((P2).ext (ext_regrown w2 d os)).cell 1).trans (hX.x1)
 refine wp_region_reads ?_
 repeat (first | go_big_quiet_step (fail) | quiet_step (fail))
 refine wpQuiet_nil ?_
 intro _ hw'
 obtain ⟨⟨dq, osq⟩, hw''⟩ := hw'
 subst hw''
 replace P2 := (P2).ext (ext_regrown w2 dq osq)
 replace P4 := (P4).ext (ext_regrown w2 dq osq)
 replace EE := hide (EE.out.trans (ext_regrown w2 dq osq))
 obtain ⟨w4, hzq3⟩ : ∃ w, grow (redrawn w2 dq) osq = w := ⟨_, rfl⟩
 rw [hzq3] at EE P2 P4 ⊢
 clear hzq3 cq3_0
 go_upto_region 5 with fail
 have P2_lt := P2.lt
 have P4_lt := P4.lt
 refine wp_ev [.q, .q, .q, .ev 0, .q, .q, .q, .al, .st 7, .q] [0, 0, 0, 0, 1, 1, 1, 0, 0, 1] (fun R => [.agg sgN, .agg X, .int .i64 v, undef, (R 0), .agg Y, (sl1 (R 0)), undef, undef, (sl1 (R 0))]) (fun _ => (.cells z9m 27 (0, 0))) (fun R _ => (.cells Y 27 (0, 0))) (fun _ => 0) (CE W Y l) (fun _ => False) (by kernel_rfl) (by kernel_rfl) (by kernel_rfl) (by kernel_rfl) rfl (fun _ => rfl) (fun _ h => h.elim) (fun _ _ h => h) (by simp) (by simp) (fun R R' => ⟨fun _ => rfl, fun _ => rfl, fun _ => rfl, fun _ => rfl, fun h => by simp only [h 0 (by decide)], fun _ => rfl, fun h => by simp only [h 0 (by decide)], fun _ => rfl, fun _ => rfl, fun h => by simp only [h 0 (by decide)], trivial⟩) (fun _ _ _ _ => rfl) ce_below ⟨EE.out.trans (ext_drew _), fun h => absurd h (by decide)⟩ ?ops14 ?end14
 case ops14 =>
   refine ⟨?_, ?_, ?_, ?_, ?_, ?_, ?_, ?_, ?_, ?_, trivial⟩
   · refine er_q ?vn5 ?hn5 ?kn5 ?gn5 ?_
     case hn5 => exact rfl
     case vn5 => exact (fun R => .agg sgN)
     case kn5 => exact (fun R => rfl)
     case gn5 => exact gd_none rfl
     intro R s w' hT hs hw ha
     go_simp
     exact km.out w'
   · refine er_q ?vn6 ?hn6 ?kn6 ?gn6 ?_
     case hn6 => exact rfl
     case vn6 => exact (fun R => .agg X)
     case kn6 => exact (fun R => rfl)
     case gn6 => exact gd_none rfl
     intro R s w' hT hs hw ha
     have L := ld_all (P2.sameE hw (fun h => h) (by simp)) uMean rfl iMean hX.s
     generalize hA : putE _ _ _ _ _ _ _ = AA
     refine q_load rfl ?_ L
     subst hA
     kernel_rfl
   · refine er_q ?vn7 ?hn7 ?kn7 ?gn7 ?_
     case hn7 => exact rfl
     case vn7 => exact (fun R => .int .i64 v)
     case kn7 => exact (fun R => rfl)
     case gn7 => exact gd_none rfl
     intro R s w' hT hs hw ha
     go_simp
   · refine er_ev (m := 0) ?hn8 ?gn8 ?_
     case hn8 => exact rfl
     case gn8 => exact gd_none rfl
     intro R w' hT hw
     go_simp
     refine (ks.out _).mono ?_
     rintro e w2 ⟨A1, k1, rfl, hO, hE⟩
     exact ⟨_, rfl, ce_ev hT hO hE⟩
   · refine er_q ?vn9 ?hn9 ?kn9 ?gn9 ?_
     case hn9 => exact rfl
     case vn9 => exact (fun R => (R 0))
     case kn9 => exact (fun R => rfl)
     case gn9 => exact gd_none rfl
     intro R s w' hT hs hw ha
     go_simp
   · refine er_q ?vn10 ?hn10 ?kn10 ?gn10 ?_
     case hn10 => exact rfl
     case vn10 => exact (fun R => .agg Y)
     case kn10 => exact (fun R => rfl)
     case gn10 => exact gd_none rfl
     intro R s w' hT hs hw ha
     have hs' : 1 ≤ s := hs
     generalize hA : putE _ _ _ _ _ _ _ = AA
     refine q_extr (x := .tmp 19) (r := R 0) rfl ?_ (ce_x0 hT hs')
     subst hA
     kernel_rfl
   · refine er_q ?vn11 ?hn11 ?kn11 ?gn11 ?_
     case hn11 => exact rfl
     case vn11 => exact (fun R => (sl1 (R 0)))
     case kn11 => exact (fun R => rfl)
     case gn11 => exact gd_none rfl
     intro R s w' hT hs hw ha
     have hs' : 1 ≤ s := hs
     generalize hA : putE _ _ _ _ _ _ _ = AA
     refine q_extr (x := .tmp 19) (r := R 0) rfl ?_ (ce_x1 hT hs')
     subst hA
     kernel_rfl
   · refine er_al ?zn12 ?hn12 ?kn12 ?gn12 ?_
     case zn12 => exact (.cells z9m 27 (0, 0))
     case hn12 => exact rfl
     case kn12 => exact rfl
     case gn12 => exact gd_none rfl
     intro ρ w'
     go_simp
     exact ⟨rfl, rfl⟩
   · refine er_st (j := 7) (Ty := ?Tn13) (p := ?pn13) (x := ?xn13) ?fn13 ?zn13 ?vn13 ?hn13 ?on13 ?kn13 ?ln13 ?gn13 ?en13 ?_
     case hn13 => exact rfl
     case on13 => exact rfl
     case fn13 => exact (fun R => (.cells Y 27 (0, 0)))
     case zn13 => exact (.cells z9m 27 (0, 0))
     case vn13 => exact (fun R => .agg Y)
     case kn13 => exact (fun R => rfl)
     case ln13 => exact rfl
     case gn13 => exact gd_none rfl
     case en13 =>
       intro R
       kernel_rfl
     intro R s ρ w g hT hs hp hx hg hz
     exact ⟨store_row rfl hp hx hz iMean (sY) (oY), fun w1 hF => ce_new hT hF (Nat.le_trans EE.out.size hg) hz (by decide)⟩
   · refine er_q ?vn14 ?hn14 ?kn14 ?gn14 ?_
     case hn14 => exact rfl
     case vn14 => exact (fun R => (sl1 (R 0)))
     case kn14 => exact (fun R => rfl)
     case gn14 => exact gd_none rfl
     intro R s w' hT hs hw ha
     go_simp
 case end14 =>
  intro sI R G w15 hI
  have hS := hI.same
  have hTT := hI.holds
  have hz0 := EE.out.size
  have hs0 : 0 < sI := (hI.stage 3 (show 3 < 10 by decide) 0 rfl).1 (List.mem_range.2 (show 3 < 10 by decide))
  obtain ⟨A1, k1, e1, O1⟩ := hTT.2 hs0
  replace P2 := P2.sameE hS (fun h => h) (by simp)
  replace P4 := P4.sameE hS (fun h => h) (by simp)
  have P7 : Blk w15 (G 7) 27 Y := (hI.fulls 8 (List.mem_range.2 (show 8 < 10 by decide)) 7 rfl).2.2
  have hmP7 := (hI.made 7 (List.mem_range.2 (show 7 < 10 by decide)) rfl).1
  have P7_lo : W.heap.size ≤ G 7 := Nat.le_trans hz0 hmP7
  have ngP2_7 : g0 ≠ G 7 := by omega
  have ngP4_7 : g0 + 1 ≠ G 7 := by omega
  replace EE := hide hTT.1
  clear hS hz0 hTT hI P2_lt P4_lt
  generalize hF : putE _ _ _ _ _ _ _ = FF
  have hF2 : FF = { tmps := #[.agg X, .int .i64 v, .pointer (some ⟨g0, 0, none⟩), undef, .pointer (some ⟨g0 + 1, 0, none⟩), .slice none 0 0, .int .i64 0, .pointer (some ⟨G 7, 0, none⟩), (sl1 (R 0)), .bool false, .agg X, .bool true, .bool false, undef, .bool false, .pointer (some ⟨g0, 1, none⟩), .int .i64 c, .bool false, undef, (R 0), .agg sgN, .agg X, .int .i64 v, (R 0), .agg Y, (sl1 (R 0)), undef, undef], defers := [] } := by subst hF; kernel_rfl
  clear hF
  subst hF2
  (try simp only [e1])
  generalize G 7 = g7 at *
  (try simp only [sl1_eq])
  have O1 := hide O1
  go_upto_region 6 with fail
  have T4 := P4
  have E9 := EE
  clear EE
  have EE : Hid (Upd (g0 + 1) w15 w15) := Upd.refl _ _
  have P2_lt := P2.lt
  have P4_lt := P4.lt
  have P7_lt := P7.lt
  refine wp_evs [.q, .q, .so 0, .q, .q] [0, 0, 0, 0, 0] (fun R => [.agg Y, .slice A1 l.length k1, undef, .slice A1 l.length k1, .int .i64 0]) (fun _ => (.cells #[] 0 (0, 0))) (fun R _ => (.cells Y 27 (0, 0))) (fun _ => g0 + 1) (UE (g0 + 1) w15) (fun _ => False) (by kernel_rfl) (by kernel_rfl) (by kernel_rfl) rfl (fun _ => rfl) (fun _ h => h.elim) (fun _ _ h => h) (by intro c hc; simp at hc; (try subst hc); (try simp only); omega) (by intro c c' h1 h2 _; simp at h1 h2; omega) (fun R R' => ⟨fun _ => rfl, fun _ => rfl, fun _ => rfl, fun _ => rfl, fun _ => rfl, trivial⟩) (fun _ _ _ _ => rfl) ue_below EE.out ?ops20 ?end20
  case ops20 =>
    refine ⟨?_, ?_, ?_, ?_, ?_, trivial⟩
    · refine er_q ?vn16 ?hn16 ?kn16 ?gn16 ?_
      case hn16 => exact rfl
      case vn16 => exact (fun R => .agg Y)
      case kn16 => exact (fun R => rfl)
      case gn16 => exact gd_none rfl
      intro R s w' hT hs hw ha
      have L := ld_all (P7.sameE hw (fun h => h) (by intro c hc; simp at hc; (try subst hc); (try simp only); omega)) uMean rfl iMean sY
      generalize hA : putE _ _ _ _ _ _ _ = AA
      refine q_load rfl ?_ L
      subst hA
      kernel_rfl
    · refine er_q ?vn17 ?hn17 ?kn17 ?gn17 ?_
      case hn17 => exact rfl
      case vn17 => exact (fun R => .slice A1 l.length k1)
      case kn17 => exact (fun R => rfl)
      case gn17 => exact gd_none rfl
      intro R s w' hT hs hw ha
      go_simp
    · refine er_so (c := 0) (Ty := ?Tn18) (p := ?pn18) (x := ?xn18) (g0 + 1) ?fn18 ?un18 ?vn18 ?hn18 ?on18 ?kn18 ?ln18 ?gn18 ?dn18 ?en18 ?_
      case hn18 => exact rfl
      case on18 => exact rfl
      case fn18 => exact (fun R => (.cells Y 27 (0, 0)))
      case un18 => exact (fun R => .pointer (some ⟨g0 + 1, 0, none⟩))
      case vn18 => exact (fun R => .agg Y)
      case kn18 => exact (fun R => rfl)
      case ln18 => exact rfl
      case gn18 => exact gd_none rfl
      case dn18 =>
        intro R
        kernel_rfl
      case en18 =>
        intro R
        kernel_rfl
      intro R s ρ w hT hs hp hx hz
      refine ⟨store_rowN (g := (g0 + 1)) rfl hp hx (hz.trans P4) iMean (rfl) (sY) (oY), fun w1 hF => ue_self hT hF⟩
    · refine er_q ?vn19 ?hn19 ?kn19 ?gn19 ?_
      case hn19 => exact rfl
      case vn19 => exact (fun R => .slice A1 l.length k1)
      case kn19 => exact (fun R => rfl)
      case gn19 => exact gd_none rfl
      intro R s w' hT hs hw ha
      go_simp
    · refine er_q ?vn20 ?hn20 ?kn20 ?gn20 ?_
      case hn20 => exact rfl
      case vn20 => exact (fun R => .int .i64 0)
      case kn20 => exact (fun R => rfl)
      case gn20 => exact gd_none rfl
      intro R s w' hT hs hw ha
      go_simp
  case end20 =>
   intro sI R G w21 hI
   have hS := hI.same
   have hTT := hI.holds
   have hz0 := EE.out.2.2.2.1
   replace P2 := P2.sameE hS (fun h => h) (by intro c hc; simp at hc; (try subst hc); (try simp only); omega)
   replace P7 := P7.sameE hS (fun h => h) (by intro c hc; simp at hc; (try subst hc); (try simp only); omega)
   replace P4 : Blk w21 (g0 + 1) 27 Y := hI.olds' 2 (List.mem_range.2 (show 2 < 5 by decide)) 0 rfl
   replace EE := hide (show Upd (g0 + 1) _ _ from hTT)
   clear hS hz0 hTT hI P2_lt P4_lt P7_lt
   generalize hF : putE _ _ _ _ _ _ _ = FF
   have hF2 : FF = { tmps := #[.agg X, .int .i64 v, .pointer (some ⟨g0, 0, none⟩), undef, .pointer (some ⟨g0 + 1, 0, none⟩), .slice A1 l.length k1, .int .i64 0, .pointer (some ⟨g7, 0, none⟩), .slice A1 l.length k1, .bool false, .agg X, .bool true, .bool false, undef, .bool false, .pointer (some ⟨g0, 1, none⟩), .int .i64 c, .bool false, undef, .tuple #[.agg Y, .slice A1 l.length k1], .agg sgN, .agg X, .int .i64 v, .tuple #[.agg Y, .slice A1 l.length k1], .agg Y, .slice A1 l.length k1, .agg Y, .slice A1 l.length k1], defers := [] } := by subst hF; kernel_rfl
   clear hF
   subst hF2
   go_wp2_with fail
   exact bodyPost_ret (res3 (p := 4) (u := 5) (u2 := 6) (ty := 27) rfl _ _ _ 27 Y _ rfl P4 uMean rfl (by rw [sY]; exact iMean)) rfl ⟨A1, k1, by kernel_rfl, OwnC.updT O1.out EE.out T4 (by decide), Upd.ext EE.out E9.out P4_lo⟩
set_option maxRecDepth 100000 in
theorem p_finN (X S : Array Value) (t c lo hi : Int) (hX : MeX X t c lo hi S) (kv : Hid (∀ w, Calls Try.prog 38 #[.agg X] w (Ret (.bool false) w))) (W : World) : Calls Try.prog 36 #[.agg X] W (CoFin [] 1 W) := by
 have P1 := Blk.new W 27 X
 have E1 := hide (ext_alloc W (.cells X 27))
 have ld := ld_all P1 uMean rfl iMean hX.s
 go_enter Try.func36, Try.ntmps36
 go_wp2_with (first
   | (refine wl_load (by kernel_rfl) rfl rfl ld ?_)
   | (go_at_call 38; (with_reducible refine (kv.out _).mono ?_); rintro e w1 ⟨rfl, hE⟩; have E2 := hide (E1.out.trans hE); clear hE))
 go_ret2
 exact ⟨none, 0, rfl, OwnC.nil_ _ _, E2.out⟩
set_option maxRecDepth 100000 in
theorem p_finY (X S : Array Value) (t c lo hi : Int) (hX : MeX X t c lo hi S) (l : List (Int × Int)) (kv : Hid (∀ w, Calls Try.prog 38 #[.agg X] w (Ret (.bool true) w))) (ke : Hid (∀ w, Calls Try.prog 52 #[.agg X] w (CoGet l w))) (W : World) : Calls Try.prog 36 #[.agg X] W (CoFin l 0 W) := by
 have sX := hX.s
 have P1 := Blk.new W 27 X
 have E1 := hide (ext_alloc W (.cells X 27))
 have ld := ld_all P1 uMean rfl iMean sX
 go_enter Try.func36, Try.ntmps36
 go_wp2_with (first
   | (refine wl_load (by kernel_rfl) rfl rfl ld ?_)
   | (go_at_call 38; (with_reducible refine (kv.out _).mono ?_); rintro e w1 ⟨rfl, hE⟩; have E2 := hide (E1.out.trans hE); have ld := ld_all (P1.ext hE) uMean rfl iMean sX; clear hE)
   | (go_at_call 52; (with_reducible refine (ke.out _).mono ?_); rintro e w2 ⟨A2, k2, rfl, hO, hE⟩; have O2 := hide (hO.less (B' := W.heap.size) E2.out.size); have E3 := hide (E2.out.trans hE); clear hE hO))
 go_ret2
 exact ⟨A2, k2, rfl, O2.out, E3.out⟩
end
section
open Go Go.RowKit Go.Sort
def stN (eps : Int) : Option Mn → Array Value
 | none => meC eps 0 0 0 0
 | some (n, lo, hi, sm) => meC eps n lo hi sm
def coN (s : Mn) : Int × Int := ((s.1 : Int), s.2.2.2 / (s.1 : Int))
theorem row_N (eps : Int) (s : Option Mn) : ∃ c lo hi z : Int, stN eps s = meC eps c lo hi z := by
 rcases s with _ | ⟨n, lo, hi, sm⟩
 · exact ⟨0, 0, 0, 0, rfl⟩
 · exact ⟨n, lo, hi, sm, rfl⟩
theorem i64_0 : I64 0 := ⟨by omega, by omega⟩
theorem f_0 : F256 0 := by unfold F256; decide
theorem okV_f {eps : Int} {n : Nat} {lo hi sm : Int} (h : OkV eps (some (n, lo, hi, sm))) : F256 sm := by
 have := sum_size h
 unfold F256
 exact Nat.lt_trans this (by decide)
theorem okV_n {eps : Int} {n : Nat} {lo hi sm : Int} (h : OkV eps (some (n, lo, hi, sm))) : I64 (n : Int) ∧ 1 ≤ (n : Int) := by
 obtain ⟨h1, h2, _⟩ := h
 exact ⟨⟨by omega, by omega⟩, by omega⟩
theorem ok_vM {eps : Int} (he : Tol eps) {s : Option Mn} (h : OkV eps s) : vM eps (numN s).1 (numN s).2.1 (numN s).2.2.1 (numN s).2.2.2 = true := by
 unfold vM
 rw [tolB_iff.2 he, Bool.true_and]
 exact decide_eq_true (numN_ok h)
theorem vM_st {t c lo hi z : Int} (hl : I64 lo) (hh : I64 hi) (h : vM t c lo hi z = true) : Tol t ∧ ∃ s, OkV t s ∧ meC t c lo hi z = stN t s := by
 unfold vM at h
 rw [Bool.and_eq_true, tolB_iff, decide_eq_true_iff] at h
 refine ⟨h.1, ?_⟩
 obtain ⟨s, h1, h2⟩ := numN_of h.1.1 hl hh h.2
 refine ⟨s, h1, ?_⟩
 rcases s with _ | ⟨n, lo', hi', sm⟩
 · simp only [numN, Prod.mk.injEq] at h2
   obtain ⟨rfl, rfl, rfl, rfl⟩ := h2
   rfl
 · simp only [numN, Prod.mk.injEq] at h2
   obtain ⟨rfl, rfl, rfl, rfl⟩ := h2
   rfl
theorem p_validV (eps : Int) (s : Option Mn) (he : Tol eps) (hs : OkV eps s) (W : World) : Calls Try.prog 38 #[.agg (stN eps s)] W (Ret (.bool true) W) := by
 have h := ok_vM he hs
 rcases s with _ | ⟨n, lo, hi, sm⟩
 · exact p_validM eps 0 0 0 0 (tol64 he) i64_0 i64_0 i64_0 f_0 true h W
 · exact p_validM eps n lo hi sm (tol64 he) (okV_n hs).1 hs.2.2.1 hs.2.2.2.1 (okV_f hs) true h W
theorem r_validV (eps : Int) (s : Option Mn) (he : Tol eps) (hs : OkV eps s) (W : World) : Calls Try.prog 39 #[.agg (stN eps s)] W (Ret (.bool true) W) := by
 have h := ok_vM he hs
 rcases s with _ | ⟨n, lo, hi, sm⟩
 · exact r_validM eps 0 0 0 0 (tol64 he) i64_0 i64_0 i64_0 f_0 true h W
 · exact r_validM eps n lo hi sm (tol64 he) (okV_n hs).1 hs.2.2.1 hs.2.2.2.1 (okV_f hs) true h W
theorem p_avgV {eps : Int} {n : Nat} {lo hi sm : Int} (h : OkV eps (some (n, lo, hi, sm))) (W : World) : Calls Try.prog 67 #[.agg (meC eps n lo hi sm)] W (Ret (.int .i64 (sm / (n : Int))) W) :=
 p_avgM eps n lo hi sm (okV_n h).1 (okV_n h).2 h.2.2.1 h.2.2.2.1 (okV_f h) h.2.2.2.2.1 h.2.2.2.2.2.1 h.2.2.2.2.2.2.1 W
theorem r_avgV {eps : Int} {n : Nat} {lo hi sm : Int} (h : OkV eps (some (n, lo, hi, sm))) (W : World) : Calls Try.prog 53 #[.agg (meC eps n lo hi sm)] W (Ret (.tuple #[.int .i64 (sm / (n : Int)), .bool true]) W) :=
 r_avgM eps n lo hi sm (okV_n h).1 (okV_n h).2 h.2.2.1 h.2.2.2.1 (okV_f h) h.2.2.2.2.1 h.2.2.2.2.2.1 h.2.2.2.2.2.2.1 W
theorem ne_0 {n : Nat} (h : 1 ≤ (n : Int)) : ((n : Int) == 0) = false := by rw [beq_eq_false_iff_ne]; omega
theorem p_endV (eps : Int) (s : Option Mn) (hs : OkV eps s) (W : World) : Calls Try.prog 52 #[.agg (stN eps s)] W (CoGet ((endN s).map coN) W) := by
 rcases s with _ | ⟨n, lo, hi, sm⟩
 · exact p_end0 _ _ eps 0 0 0 (meX_of _ _ _ _ _) (wC_size 0) (wC_onee 0) rfl W
 · exact p_endYe _ _ eps n lo hi (meX_of _ _ _ _ _) (sm / (n : Int)) (wC_size sm) (wC_onee sm) (ne_0 (okV_n hs).2) (okV_n hs).1 (mean_i64 hs) (hide fun w => p_avgV hs w) W
theorem p_finSe (eps : Int) (s : Option Mn) (he : Tol eps) (hs : OkV eps s) (W : World) : Calls Try.prog 36 #[.agg (stN eps s)] W (CoFin ((endN s).map coN) 0 W) := by
 have kv := hide fun w => p_validV eps s he hs w
 have ke := hide fun w => p_endV eps s hs w
 obtain ⟨c, lo, hi, z, h⟩ := row_N eps s
 rw [h] at kv ke ⊢
 exact p_finY _ _ eps c lo hi (meX_of _ _ _ _ _) _ kv ke W
theorem r_finSe (eps : Int) (s : Option Mn) (he : Tol eps) (hs : OkV eps s) (W : World) : Calls Try.prog 37 #[.agg (stN eps s)] W (CoFin ((endN s).map coN) 0 W) := by
 have kv := hide fun w => r_validV eps s he hs w
 rcases s with _ | ⟨n, lo, hi, sm⟩
 · exact r_fin0 _ _ eps 0 0 0 (meX_of _ _ _ _ _) kv rfl W
 · exact r_finYe _ _ eps n lo hi (meX_of _ _ _ _ _) (sm / (n : Int)) kv (ne_0 (okV_n hs).2) (okV_n hs).1 (mean_i64 hs) (hide fun w => r_avgV hs w) W
theorem more_b {eps : Int} {n : Nat} {lo hi sm v : Int} (h : OkV eps (some (n, lo, hi, sm))) (hv : I64 v) (hc : n < 1073741824) : I64 ((n : Int) + 1) ∧ 1 ≤ (n : Int) + 1 ∧ I64 (min lo v) ∧ I64 (max hi v) ∧ F256 (sm + v) ∧ min lo v ≤ max hi v ∧ ((n : Int) + 1 - 1) * min lo v + max hi v ≤ sm + v ∧ sm + v ≤ ((n : Int) + 1 - 1) * max hi v + min lo v := by
 have hs := sum_size h
 obtain ⟨h1, h2, ⟨h3, h3'⟩, ⟨h4, h4'⟩, h5, h6, h7, h8⟩ := h
 have := more_sum (v := v) h1 h5 h6 h7
 obtain ⟨v1, v2⟩ := hv
 refine ⟨⟨by omega, by omega⟩, by omega, ⟨by omega, by omega⟩, ⟨by omega, by omega⟩, ?_, by omega, this.1, this.2⟩
 unfold F256
 omega
theorem more_vM {eps : Int} (he : Tol eps) {n : Nat} {lo hi sm v : Int} (h : OkV eps (some (n, lo, hi, sm))) (hv : I64 v) (hc : n < 1073741824) : vM eps ((n : Int) + 1) (min lo v) (max hi v) (sm + v) = decide (FitN eps (moreN (n, lo, hi, sm) v)) := by
 unfold vM
 rw [tolB_iff.2 he, Bool.true_and, decide_eq_decide]
 have h1 := h.1
 constructor
 · intro k
   have k := (numN_2 (by omega)).1 k
   exact ⟨k.2.2.2.2.1, k.2.2.2.2.2⟩
 · intro k
   exact numN_ok ((okV_more h hv hc).2 k)
def stepFe (eps : Int) (s : Option Mn) (v : Int) : Array Value × List (Int × Int) × Nat := if cntN s = 1073741824 then (z9m, [], 3) else (stN eps (stepN eps s v).1, (stepN eps s v).2.map coN, 0)
theorem z_0 (v : Int) : (0 : Int) + v = v := by omega
set_option maxHeartbeats 1600000 in
theorem p_segS (eps : Int) (s : Option Mn) (v : Int) (he : Tol eps) (hs : OkV eps s) (hc : cntN s < 1073741824) (hv : I64 v) (W : World) :
   Calls Try.prog 51 #[.agg sgN, .agg (stN eps s), .int .i64 v] W (CoPair (stN eps (stepN eps s v).1) ((stepN eps s v).2.map coN) W) := by
 have ke := hide fun w => p_endV eps s hs w
 rcases s with _ | ⟨n, lo, hi, sm⟩
 · exact p_segN _ _ eps 0 0 0 (meX_of _ _ _ _ _) (meC eps 1 v v v) v [] rfl (meC_one _ _ _ _ _) (hide fun w => p_ext0e _ eps 0 0 0 0 (meX_of _ _ _ _ _) v rfl w) (hide fun w => p_beginN _ _ eps 0 0 0 v (meX_of _ _ _ _ _) hv w) ke W
 · have hc : n < 1073741824 := hc
   obtain ⟨b1, b2, b3, b4, b5, b6, b7, b8⟩ := more_b hs hv hc
   have k1 := hide fun w => pw_ofi hv w
   have k2 := hide fun w => pw_add (okV_f hs) (f64 hv) rfl b5 w
   have kn := fun w => p_neaM eps ((n : Int) + 1) (min lo v) (max hi v) (sm + v) he b1 b2 b3 b4 b5 b6 b7 b8 w
   rw [← Bool.decide_and] at kn
   have wr : IntKind.i64.wrap ((n : Int) + 1) = (n : Int) + 1 := by rw [IntKind.wrap_i64]; omega
   by_cases hf : FitN eps (moreN (n, lo, hi, sm) v)
   · simp only [stepN, if_pos hf]
     rw [decide_eq_true (show (sm + v) / ((n : Int) + 1) - min lo v ≤ eps ∧ max hi v - (sm + v) / ((n : Int) + 1) ≤ eps from hf)] at kn
     exact p_segY _ _ eps n lo hi (meX_of _ _ _ _ _) (meC eps ((n : Int) + 1) (min lo v) (max hi v) (sm + v)) v rfl (meC_one _ _ _ _ _) (hide fun w => p_extYe _ eps n lo hi sm (meX_of _ _ _ _ _) v (sm + v) (ne_0 (okV_n hs).2) wr k1 k2 (hide kn) w) W
   · simp only [stepN, if_neg hf]
     rw [decide_eq_false (show ¬ ((sm + v) / ((n : Int) + 1) - min lo v ≤ eps ∧ max hi v - (sm + v) / ((n : Int) + 1) ≤ eps) from hf)] at kn
     exact p_segN _ _ eps n lo hi (meX_of _ _ _ _ _) (meC eps 1 v v v) v _ rfl (meC_one _ _ _ _ _) (hide fun w => p_extNe _ eps n lo hi sm (meX_of _ _ _ _ _) v (sm + v) (ne_0 (okV_n hs).2) wr k1 k2 (hide kn) w) (hide fun w => p_beginN _ _ eps n lo hi v (meX_of _ _ _ _ _) hv w) ke W
theorem cnt_lt {eps : Int} {s : Option Mn} (hs : OkV eps s) (hc : ¬ cntN s = 1073741824) : cntN s < 1073741824 := by
 rcases s with _ | ⟨n, lo, hi, sm⟩
 · decide
 · have := hs.2.1
   have h2 : ¬ n = 1073741824 := hc
   show n < 1073741824
   omega
set_option maxHeartbeats 1600000 in
theorem p_stepFe (eps : Int) (s : Option Mn) (v : Int) (he : Tol eps) (hs : OkV eps s) (hv : I64 v) (W : World) : Calls Try.prog 35 #[.agg (stN eps s), .int .i64 v] W (CoTrip (stepFe eps s v).1 (stepFe eps s v).2.1 (stepFe eps s v).2.2 W) := by
 have kv := hide fun w => p_validV eps s he hs w
 unfold stepFe
 by_cases hc : cntN s = 1073741824
 · rw [if_pos hc]
   rcases s with _ | ⟨n, lo, hi, sm⟩
   · simp [cntN] at hc
   · have hc : n = 1073741824 := hc
     subst hc
     exact (p_stepLe _ _ eps _ lo hi (meX_of _ _ _ _ _) v kv rfl W).mono fun _ _ h => trip_nil h
 · rw [if_neg hc]
   have hcl := cnt_lt hs hc
   have ks := fun w => p_segS eps s v he hs hcl hv w
   obtain ⟨c1, a, b, z1, h1⟩ := row_N eps (stepN eps s v).1
   rw [h1] at ks ⊢
   rcases s with _ | ⟨n, lo, hi, sm⟩
   · exact p_stepKe _ _ eps 0 0 0 (meX_of _ _ _ _ _) _ v _ rfl (meC_one _ _ _ _ _) (by decide) kv (hide ks) W
   · exact p_stepKe _ _ eps n lo hi (meX_of _ _ _ _ _) _ v _ rfl (meC_one _ _ _ _ _) (by rw [beq_eq_false_iff_ne]; have : n < 1073741824 := hcl; omega) kv (hide ks) W
set_option maxHeartbeats 1600000 in
theorem r_stepFe (eps : Int) (s : Option Mn) (v : Int) (he : Tol eps) (hs : OkV eps s) (hv : I64 v) (W : World) : Calls Try.prog 24 #[.agg (stN eps s), .int .i64 v] W (CoTrip (stepFe eps s v).1 (stepFe eps s v).2.1 (stepFe eps s v).2.2 W) := by
 have kv := hide fun w => r_validV eps s he hs w
 have kn := hide fun w => r_finSe eps s he hs w
 have k1 := hide fun w => rw_ofi hv w
 unfold stepFe
 rcases s with _ | ⟨n, lo, hi, sm⟩
 · exact r_step0e _ eps 0 0 0 0 (meX_of _ _ _ _ _) v v kv (by decide) (by decide) k1 (hide fun w => rw_add f_0 (f64 hv) (z_0 v) (f64 hv) w) (by decide) [] kn W
 · by_cases hc : n = 1073741824
   · rw [if_pos (show cntN (some (n, lo, hi, sm)) = 1073741824 from hc)]
     exact (r_stepLe _ _ eps n lo hi (meX_of _ _ _ _ _) v kv (by rw [beq_iff_eq]; omega) W).mono fun _ _ h => trip_nil h
   · rw [if_neg (show ¬ cntN (some (n, lo, hi, sm)) = 1073741824 from hc)]
     have hcl : n < 1073741824 := cnt_lt hs hc
     obtain ⟨b1, b2, b3, b4, b5, b6, b7, b8⟩ := more_b hs hv hcl
     have k2 := hide fun w => rw_add (okV_f hs) (f64 hv) rfl b5 w
     have km := fun w => r_validM eps ((n : Int) + 1) (min lo v) (max hi v) (sm + v) (tol64 he) b1 b3 b4 b5 _ (more_vM he hs hv hcl) w
     have d1 : ((n : Int) == 1073741824) = false := by rw [beq_eq_false_iff_ne]; omega
     have d2 : decide (0 < (n : Int)) = true := decide_eq_true (by have := (okV_n hs).2; omega)
     have wr : IntKind.i64.wrap ((n : Int) + 1) = (n : Int) + 1 := by rw [IntKind.wrap_i64]; omega
     by_cases hf : FitN eps (moreN (n, lo, hi, sm) v)
     · simp only [stepN, if_pos hf]
       rw [decide_eq_true hf] at km
       exact (r_stepYe _ eps n lo hi sm (meX_of _ _ _ _ _) v (sm + v) kv d1 wr k1 k2 d2 (hide km) W).mono fun _ _ h => trip_nil h
     · simp only [stepN, if_neg hf]
       rw [decide_eq_false hf] at km
       exact r_stepNe _ eps n lo hi sm (meX_of _ _ _ _ _) v (sm + v) kv d1 wr k1 k2 d2 (hide km) _ kn W
end
section
open Go Go.RowKit Go.Sort
def allNF (eps : Int) (l : List Int) : List (Int × Int) × Nat := if tolB eps = true then (if 1073741824 < l.length then ([], 3) else ((allN eps l).map coN, 0)) else ([], 9)
theorem stepN_le (eps : Int) (s : Option Mn) (v : Int) : (stepN eps s v).2.length ≤ 1 := by
 rcases s with _ | s
 · simp [stepN]
 · simp only [stepN]; split <;> simp
theorem doneN_le (eps : Int) : ∀ (l : List Int) (s : Option Mn), (doneN eps s l).length ≤ l.length
 | [], _ => by simp [doneN]
 | v :: l, s => by
   have h1 := doneN_le eps l (stepN eps s v).1
   have h2 := stepN_le eps s v
   simp only [doneN, List.length_append, List.length_cons]
   omega
theorem endN_le (s : Option Mn) : (endN s).length ≤ 1 := by rcases s with _ | s <;> simp [endN]
theorem stN_size (eps : Int) (s : Option Mn) : (stN eps s).size = 9 := by rcases s with _ | ⟨n, lo, hi, sm⟩ <;> rfl
theorem state_atV {eps : Int} (he : Tol eps) {l : List Int} (ho : ∀ v ∈ l, I64 v) (hn : l.length ≤ 1073741824) (j : Nat) (hj : j ≤ l.length) : OkV eps (stateN eps none (l.take j)) ∧ cntN (stateN eps none (l.take j)) ≤ j :=
 ⟨okN_okV (state_atN he ho hn j hj).1, (state_atN he ho hn j hj).2⟩
theorem blk9 {w : World} {g : Nat} {t c lo hi z t' c' lo' hi' z' : Int} (h : Blk w g 27 (meC t c lo hi z)) : Blk (((((((((w.setCell ⟨g, 0, none⟩ (.int .i64 t')).setCell ⟨g, 1, none⟩ (.int .i64 c')).setCell ⟨g, 2, none⟩ (.int .i64 lo')).setCell ⟨g, 3, none⟩ (.int .i64 hi')).setCell ⟨g, 4, none⟩ (.bool (sg z'))).setCell ⟨g, 5, none⟩ (.int .u64 (l0 z' : Int))).setCell ⟨g, 6, none⟩ (.int .u64 (l1 z' : Int))).setCell ⟨g, 7, none⟩ (.int .u64 (l2 z' : Int))).setCell ⟨g, 8, none⟩ (.int .u64 (l3 z' : Int))) g 27 (meC t' c' lo' hi' z') := by
 have k := (((((((((h).set_ 0 (.int .i64 t')).set_ 1 (.int .i64 c')).set_ 2 (.int .i64 lo')).set_ 3 (.int .i64 hi')).set_ 4 (.bool (sg z'))).set_ 5 (.int .u64 (l0 z' : Int))).set_ 6 (.int .u64 (l1 z' : Int))).set_ 7 (.int .u64 (l2 z' : Int))).set_ 8 (.int .u64 (l3 z' : Int))
 have e : ((((((((((meC t c lo hi z)).setIfInBounds 0 (.int .i64 t')).setIfInBounds 1 (.int .i64 c')).setIfInBounds 2 (.int .i64 lo')).setIfInBounds 3 (.int .i64 hi')).setIfInBounds 4 (.bool (sg z'))).setIfInBounds 5 (.int .u64 (l0 z' : Int))).setIfInBounds 6 (.int .u64 (l1 z' : Int))).setIfInBounds 7 (.int .u64 (l2 z' : Int))).setIfInBounds 8 (.int .u64 (l3 z' : Int)) = meC t' c' lo' hi' z' := by kernel_rfl
 rw [e] at k
 exact k
theorem upd9 (w : World) (g : Nat) (t c lo hi z : Int) : Upd g w (((((((((w.setCell ⟨g, 0, none⟩ (.int .i64 t)).setCell ⟨g, 1, none⟩ (.int .i64 c)).setCell ⟨g, 2, none⟩ (.int .i64 lo)).setCell ⟨g, 3, none⟩ (.int .i64 hi)).setCell ⟨g, 4, none⟩ (.bool (sg z))).setCell ⟨g, 5, none⟩ (.int .u64 (l0 z : Int))).setCell ⟨g, 6, none⟩ (.int .u64 (l1 z : Int))).setCell ⟨g, 7, none⟩ (.int .u64 (l2 z : Int))).setCell ⟨g, 8, none⟩ (.int .u64 (l3 z : Int))) := ((((((((((Upd.refl g w)).set 0 (.int .i64 t)).set 1 (.int .i64 c)).set 2 (.int .i64 lo)).set 3 (.int .i64 hi)).set 4 (.bool (sg z))).set 5 (.int .u64 (l0 z : Int))).set 6 (.int .u64 (l1 z : Int))).set 7 (.int .u64 (l2 z : Int))).set 8 (.int .u64 (l3 z : Int))
end
section
open Go Go.RowKit Go.Sort
set_option maxHeartbeats 6400000 in
set_option maxRecDepth 100000 in
theorem p_segAll (A : Option Addr) (n c : Nat) (l : List Int) (eps : Int) (W : World) (he : Tol eps) (hl : TimesAt W A l) (hn : l.length = n) (hn2 : n ≤ 1073741824) : Calls Try.prog 43 #[.agg sgN, .agg (meC eps 0 0 0 0), .slice A n c] W (CoGet ((allN eps l).map coN) W) := by
 have hen : ∀ a w, (callFunc 52 a).run Try.prog w = .ok (.enter 52 a) w := fun a w => by go_simp
 have P4 := Blk.new (W.alloc (.cells sgN 86)) 27 (meC eps 0 0 0 0)
 have P3 := (Blk.new W 86 sgN).alloc (.cells (meC eps 0 0 0 0) 27)
 rw [alloc_size] at P4
 have EE := (ext_alloc W (.cells sgN 86)).trans (ext_alloc _ (.cells (meC eps 0 0 0 0) 27))
 have hgs : W.heap.size + 2 = ((W.alloc (.cells sgN 86)).alloc (.cells (meC eps 0 0 0 0) 27)).heap.size := by rw [alloc_size, alloc_size]
 obtain ⟨g, hg⟩ : ∃ g, W.heap.size = g := ⟨_, rfl⟩
 obtain ⟨w2, hw2⟩ : ∃ w, (W.alloc (.cells sgN 86)).alloc (.cells (meC eps 0 0 0 0) 27) = w := ⟨_, rfl⟩
 rw [hw2] at P3 P4 EE hgs
 rw [hg] at P3 P4 hgs
 have P3 := hide P3
 have P4 : Hid (Blk w2 (g + 1) 27 (stN eps (stateN eps none (l.take 0)))) := hide P4
 have EE := hide EE
 have HW := hide hw2
 have Hg := hide hg
 have Hl := hide hl
 have Hn := hide hn
 have He := hide he
 have HI := hide hl.1
 clear hl hn he hw2 hg
 go_enter Try.func43, Try.ntmps43
 go_upto_region 1 with fail
 rw [HW.out, Hg.out]
 clear HW
 go_upto_region 3 with fail
 go_loopw [7, 9, 10, 11, 14] (fun ov _ _ _ iv wr => ∃ i : Nat, i ≤ n ∧ iv = .int .i64 (i : Int) ∧ Hid (OwnC (g + 2) wr ov ((doneN eps none (l.take i)).map coN)) ∧ Hid (Blk wr (g + 1) 27 (stN eps (stateN eps none (l.take i)))) ∧ Hid (Blk wr g 86 sgN) ∧ Hid (Ext W wr) ∧ g + 2 ≤ wr.heap.size) (fun _ _ _ _ iv _ => n - (intOf iv).toNat)
 case atStart => exact ⟨0, by omega, rfl, hide (OwnC.nil_ _ _), P4, P3, EE, by omega⟩
 case round =>
   clear P3 P4 EE hgs
   obtain ⟨i, hi, rfl, HO, HP, HS, HE, hgr⟩ := hrel
   by_cases hlt : i < n
   · have d1 : decide ((i : Int) < (n : Int)) = true := decide_eq_true (by omega)
     have him : i < l.length := by rw [Hn.out]; exact hlt
     obtain ⟨bm, om, rfl, _, hc⟩ := (Hl.out.ext HE.out).2.2 (by omega)
     have ct := hc i him
     have ix := fun w => idxT bm om n c i hlt w
     have hv : l[i]? = some (l.getD i 0) := by rw [List.getElem?_eq_getElem him]; simp [List.getD_eq_getElem?_getD, him]
     have iv := HI.out.get i
     obtain ⟨hdone, hst⟩ := done_snocN eps hv
     obtain ⟨hok, hcnt⟩ := state_atV He.out HI.out (by rw [Hn.out]; exact hn2) i (by omega)
     have hlen := doneN_le eps (l.take i) none
     rw [List.length_take] at hlen
     obtain ⟨v, hvv⟩ : ∃ v, l.getD i 0 = v := ⟨_, rfl⟩
     rw [hvv] at ct hv iv hdone hst
     have KS := fun w => p_segS eps (stateN eps none (l.take i)) v He.out hok (by omega) iv w
     have ll := stepN_le eps (stateN eps none (l.take i)) v
     obtain ⟨s, hs⟩ : ∃ s, stateN eps none (l.take i) = s := ⟨_, rfl⟩
     rw [hs] at KS hst HP ll hdone
     rw [← hst] at KS
     obtain ⟨T, hT⟩ : ∃ T, (doneN eps none (l.take i)).map coN = T := ⟨_, rfl⟩
     obtain ⟨q, hq⟩ : ∃ q, (stepN eps s v).2.map coN = q := ⟨_, rfl⟩
     have hdm : (doneN eps none (l.take (i + 1))).map coN = T ++ q := by rw [hdone, List.map_append, hT, hq]
     have hTl : T.length ≤ i := by rw [← hT, List.length_map]; omega
     have hql : q.length ≤ 1 := by rw [← hq, List.length_map]; exact ll
     rw [hT] at HO
     rw [hq] at KS
     obtain ⟨c0, lo0, hi0, z0, hr0⟩ := row_N eps s
     obtain ⟨c1, lo1, hi1, z1, hr1⟩ := row_N eps (stateN eps none (l.take (i + 1)))
     rw [hr0] at KS HP
     rw [hr1] at KS
     have Hr1 := hide hr1
     have Hdm := hide hdm
     have KS : Hid (∀ w, Calls Try.prog 51 #[.agg sgN, .agg (meC eps c0 lo0 hi0 z0), .int .i64 v] w (CoPair #[.int .i64 eps, .int .i64 c1, .int .i64 lo1, .int .i64 hi1, .bool (sg z1), .int .u64 (l0 z1 : Int), .int .u64 (l1 z1 : Int), .int .u64 (l2 z1 : Int), .int .u64 (l3 z1 : Int)] q w)) := hide KS
     have hle : T.length + q.length ≤ 8796093022208 := by omega
     have ld3 := ld_all HS.out uSgn rfl iSgn rfl
     have ld4 := ld_all HP.out uMean rfl iMean (meX_of _ _ _ _ _).s
     clear hc hvv hv hdone hst hok hcnt hlen ll hs hT hq hr0 hr1 hdm
     go_upto_region 6 with (first
       | (refine wl_load (by kernel_rfl) rfl rfl ld3 ?_)
       | (refine wl_load (by kernel_rfl) rfl rfl ld4 ?_)
       | (go_at_call 51; (with_reducible refine (KS.out _).mono ?_); rintro e w6 ⟨A6, k6, rfl, hO6, hE6⟩))
     have E7 := hE6.trans (ext_alloc w6 (.cells #[.int .i64 eps, .int .i64 c1, .int .i64 lo1, .int .i64 hi1, .bool (sg z1), .int .u64 (l0 z1 : Int), .int .u64 (l1 z1 : Int), .int .u64 (l2 z1 : Int), .int .u64 (l3 z1 : Int)] 27))
     have P10 := Blk.new w6 27 #[.int .i64 eps, .int .i64 c1, .int .i64 lo1, .int .i64 hi1, .bool (sg z1), .int .u64 (l0 z1 : Int), .int .u64 (l1 z1 : Int), .int .u64 (l2 z1 : Int), .int .u64 (l3 z1 : Int)]
     have hn10 : w6.heap.size < (w6.alloc (.cells #[.int .i64 eps, .int .i64 c1, .int .i64 lo1, .int .i64 hi1, .bool (sg z1), .int .u64 (l0 z1 : Int), .int .u64 (l1 z1 : Int), .int .u64 (l2 z1 : Int), .int .u64 (l3 z1 : Int)] 27)).heap.size := by rw [alloc_size]; exact Nat.lt_succ_self _
     have O7 := HO.out.ext E7
     have Q7 := (hO6.alloc (.cells #[.int .i64 eps, .int .i64 c1, .int .i64 lo1, .int .i64 hi1, .bool (sg z1), .int .u64 (l0 z1 : Int), .int .u64 (l1 z1 : Int), .int .u64 (l2 z1 : Int), .int .u64 (l3 z1 : Int)] 27))
     have hz6 := hE6.size
     obtain ⟨g10, hg10⟩ : ∃ k, w6.heap.size = k := ⟨_, rfl⟩
     obtain ⟨w7, hw7⟩ : ∃ w, w6.alloc (.cells #[.int .i64 eps, .int .i64 c1, .int .i64 lo1, .int .i64 hi1, .bool (sg z1), .int .u64 (l0 z1 : Int), .int .u64 (l1 z1 : Int), .int .u64 (l2 z1 : Int), .int .u64 (l3 z1 : Int)] 27) = w := ⟨_, rfl⟩
     rw [hw7] at E7 O7 Q7 hn10
     rw [hw7, hg10] at P10
     rw [hg10] at hz6 hn10
     rw [hw7, hg10]
     have S7 := hide (HS.out.ext E7)
     have P7 : Hid (Blk w7 (g + 1) 27 (meC eps c0 lo0 hi0 z0)) := hide (HP.out.ext E7)
     have P10 : Hid (Blk w7 g10 27 (meC eps c1 lo1 hi1 z1)) := hide P10
     have O7 := hide O7
     have Q7 := hide Q7
     have E8 := hide (HE.out.trans E7)
     have hz7 : g + 2 ≤ w7.heap.size := by omega
     have hob : ∀ k, Value.ownBlock _ = some k → g + 2 ≤ k ∧ k < g10 := fun k hk => by have := HO.out.1.lt k hk; exact ⟨this.1, Nat.lt_of_lt_of_le this.2 hz6⟩
     clear hw7 hg10 hE6 hO6 ld3 ld4 KS HO HP HS HE ct E7
     have s0 : w7.drew.cell? ⟨g + 1, 0, none⟩ = some (.int .i64 eps) := P7.out.cell 0
     have s1 : w7.drew.cell? ⟨g + 1, 1, none⟩ = some (.int .i64 c0) := P7.out.cell 1
     have s2 : w7.drew.cell? ⟨g + 1, 2, none⟩ = some (.int .i64 lo0) := P7.out.cell 2
     have s3 : w7.drew.cell? ⟨g + 1, 3, none⟩ = some (.int .i64 hi0) := P7.out.cell 3
     have s4 : w7.drew.cell? ⟨g + 1, 4, none⟩ = some (.bool (sg z0)) := P7.out.cell 4
     have s5 : w7.drew.cell? ⟨g + 1, 5, none⟩ = some (.int .u64 (l0 z0 : Int)) := P7.out.cell 5
     have s6 : w7.drew.cell? ⟨g + 1, 6, none⟩ = some (.int .u64 (l1 z0 : Int)) := P7.out.cell 6
     have s7 : w7.drew.cell? ⟨g + 1, 7, none⟩ = some (.int .u64 (l2 z0 : Int)) := P7.out.cell 7
     have s8 : w7.drew.cell? ⟨g + 1, 8, none⟩ = some (.int .u64 (l3 z0 : Int)) := P7.out.cell 8
     have f0 := P7.out.frozen 0
     have f1 := P7.out.frozen 1
     have f2 := P7.out.frozen 2
     have f3 := P7.out.frozen 3
     have f4 := P7.out.frozen 4
     have f5 := P7.out.frozen 5
     have f6 := P7.out.frozen 6
     have f7 := P7.out.frozen 7
     have f8 := P7.out.frozen 8
     have e0 : w7.drew.cell? ⟨g10, 0, none⟩ = some (.int .i64 eps) := P10.out.cell 0
     have e1 : w7.drew.cell? ⟨g10, 1, none⟩ = some (.int .i64 c1) := P10.out.cell 1
     have e2 : w7.drew.cell? ⟨g10, 2, none⟩ = some (.int .i64 lo1) := P10.out.cell 2
     have e3 : w7.drew.cell? ⟨g10, 3, none⟩ = some (.int .i64 hi1) := P10.out.cell 3
     have e4 : w7.drew.cell? ⟨g10, 4, none⟩ = some (.bool (sg z1)) := P10.out.cell 4
     have e5 : w7.drew.cell? ⟨g10, 5, none⟩ = some (.int .u64 (l0 z1 : Int)) := P10.out.cell 5
     have e6 : w7.drew.cell? ⟨g10, 6, none⟩ = some (.int .u64 (l1 z1 : Int)) := P10.out.cell 6
     have e7 : w7.drew.cell? ⟨g10, 7, none⟩ = some (.int .u64 (l2 z1 : Int)) := P10.out.cell 7
     have e8 : w7.drew.cell? ⟨g10, 8, none⟩ = some (.int .u64 (l3 z1 : Int)) := P10.out.cell 8
     go_region_law (refine step_appendC rfl (.tmp 26) (.tmp 27) rfl (g + 2) _ T q rfl A6 _ k6 rfl O7.out.drew (own_co Q7.out.drew) rfl hle hz7 ?_; intro v10 w10 hO10 hG10 hA10; have B10 : Below (g + 2) w7.drew w10 := (Below.refl (g + 2) w7.drew).grown hG10 hz7 (fun k hk => (hob k hk).1); have R7 : Hid (Blk w10 (g + 1) 27 (meC eps c0 lo0 hi0 z0)) := hide ((B10.block (g + 1) (Nat.lt_succ_self (g + 1))).trans P7.out); have R3 : Hid (Blk w10 g 86 sgN) := hide ((B10.block g (by omega)).trans S7.out); have R10 : Hid (Blk w10 g10 27 (meC eps c1 lo1 hi1 z1)) := hide ((hG10.block g10 hn10 (fun e => by have := hob g10 e.symm; omega)).trans P10.out); have E10 := hide (below_grownC (B := g + 2) (E8.out.trans (ext_drew _)) (by rw [Hg.out]; omega) O7.out.drew hG10); have O10 := hide hO10; have r0 : w10.cell? ⟨g + 1, 0, none⟩ = some (.int .i64 eps) := R7.out.cell 0; have r1 : w10.cell? ⟨g + 1, 1, none⟩ = some (.int .i64 c0) := R7.out.cell 1; have r2 : w10.cell? ⟨g + 1, 2, none⟩ = some (.int .i64 lo0) := R7.out.cell 2; have r3 : w10.cell? ⟨g + 1, 3, none⟩ = some (.int .i64 hi0) := R7.out.cell 3; have r4 : w10.cell? ⟨g + 1, 4, none⟩ = some (.bool (sg z0)) := R7.out.cell 4; have r5 : w10.cell? ⟨g + 1, 5, none⟩ = some (.int .u64 (l0 z0 : Int)) := R7.out.cell 5; have r6 : w10.cell? ⟨g + 1, 6, none⟩ = some (.int .u64 (l1 z0 : Int)) := R7.out.cell 6; have r7 : w10.cell? ⟨g + 1, 7, none⟩ = some (.int .u64 (l2 z0 : Int)) := R7.out.cell 7; have r8 : w10.cell? ⟨g + 1, 8, none⟩ = some (.int .u64 (l3 z0 : Int)) := R7.out.cell 8; have h0 := R7.out.frozen 0; have h1 := R7.out.frozen 1; have h2 := R7.out.frozen 2; have h3 := R7.out.frozen 3; have h4 := R7.out.frozen 4; have h5 := R7.out.frozen 5; have h6 := R7.out.frozen 6; have h7 := R7.out.frozen 7; have h8 := R7.out.frozen 8; have x0 : w10.cell? ⟨g10, 0, none⟩ = some (.int .i64 eps) := R10.out.cell 0; have x1 : w10.cell? ⟨g10, 1, none⟩ = some (.int .i64 c1) := R10.out.cell 1; have x2 : w10.cell? ⟨g10, 2, none⟩ = some (.int .i64 lo1) := R10.out.cell 2; have x3 : w10.cell? ⟨g10, 3, none⟩ = some (.int .i64 hi1) := R10.out.cell 3; have x4 : w10.cell? ⟨g10, 4, none⟩ = some (.bool (sg z1)) := R10.out.cell 4; have x5 : w10.cell? ⟨g10, 5, none⟩ = some (.int .u64 (l0 z1 : Int)) := R10.out.cell 5; have x6 : w10.cell? ⟨g10, 6, none⟩ = some (.int .u64 (l1 z1 : Int)) := R10.out.cell 6; have x7 : w10.cell? ⟨g10, 7, none⟩ = some (.int .u64 (l2 z1 : Int)) := R10.out.cell 7; have x8 : w10.cell? ⟨g10, 8, none⟩ = some (.int .u64 (l3 z1 : Int)) := R10.out.cell 8; clear hO10 hG10 hA10 B10)
     all_goals
       have U9 := upd9 w10 (g + 1) eps c1 lo1 hi1 z1
       have P9 := blk9 (t' := eps) (c' := c1) (lo' := lo1) (hi' := hi1) (z' := z1) R7.out
       have O9 := O10.out.upd U9 (Nat.lt_succ_self (g + 1))
       have S9 := hide ((U9.2.2.2.2 g R3.out.lt (by omega)).trans R3.out)
       have E9 := U9.ext E10.out (by rw [Hg.out]; omega)
       have hz9 : g + 2 ≤ w10.heap.size := R7.out.lt
       have hz9 := Nat.le_trans hz9 U9.2.2.2.1
       obtain ⟨w9, hw9⟩ : ∃ w, (((((((((w10.setCell ⟨g + 1, 0, none⟩ (.int .i64 eps)).setCell ⟨g + 1, 1, none⟩ (.int .i64 c1)).setCell ⟨g + 1, 2, none⟩ (.int .i64 lo1)).setCell ⟨g + 1, 3, none⟩ (.int .i64 hi1)).setCell ⟨g + 1, 4, none⟩ (.bool (sg z1))).setCell ⟨g + 1, 5, none⟩ (.int .u64 (l0 z1 : Int))).setCell ⟨g + 1, 6, none⟩ (.int .u64 (l1 z1 : Int))).setCell ⟨g + 1, 7, none⟩ (.int .u64 (l2 z1 : Int))).setCell ⟨g + 1, 8, none⟩ (.int .u64 (l3 z1 : Int))) = w := ⟨_, rfl⟩
       rw [hw9] at P9 O9 S9 E9 hz9 ⊢
       have P9 : Hid (Blk w9 (g + 1) 27 (stN eps (stateN eps none (l.take (i + 1))))) := by show Blk _ _ _ _; rw [Hr1.out]; exact P9
       have O9 : Hid (OwnC (g + 2) w9 v10 ((doneN eps none (l.take (i + 1))).map coN)) := by show OwnC _ _ _ _; rw [Hdm.out]; exact O9
       have S9 : Hid (Blk w9 g 86 sgN) := S9
       have E9 := hide E9
       clear hw9 U9 R7 R3 R10 O10 E10 P7 P10 S7 O7 Q7 E8 s0 s1 s2 s3 s4 s5 s6 s7 s8 f0 f1 f2 f3 f4 f5 f6 f7 f8 e0 e1 e2 e3 e4 e5 e6 e7 e8 r0 r1 r2 r3 r4 r5 r6 r7 r8 h0 h1 h2 h3 h4 h5 h6 h7 h8 x0 x1 x2 x3 x4 x5 x6 x7 x8 Hr1 Hdm
       go_wp2_with fail
       go_roundw
       case rel => exact ⟨i + 1, by omega, by go_num, O9, P9, S9, E9, hz9⟩
       case measure => simp [intOf]; omega
   · obtain rfl : i = n := by omega
     have d1 : decide ((i : Int) < (i : Int)) = false := decide_eq_false (by omega)
     have hli : l.take i = l := List.take_of_length_le (by rw [Hn.out]; omega)
     rw [hli] at HO HP
     obtain ⟨hok, _⟩ := state_atV He.out HI.out (by rw [Hn.out]; exact hn2) l.length (by omega)
     rw [List.take_length] at hok
     have hdl := doneN_le eps l none
     have KF := fun w => p_endV eps (stateN eps none l) hok w
     have ld := ld_all HP.out uMean rfl iMean (stN_size _ _)
     have cf : wr.cell? ⟨g, 2, none⟩ = some (.func (.func 52) #[] #[]) := HS.out.cell 2
     have hel := endN_le (stateN eps none l)
     rw [← List.length_map (f := coN)] at hel
     have hal : (allN eps l).map coN = (doneN eps none l).map coN ++ (endN (stateN eps none l)).map coN := by unfold allN; rw [List.map_append]
     obtain ⟨q, hq⟩ : ∃ q, (endN (stateN eps none l)).map coN = q := ⟨_, rfl⟩
     obtain ⟨T, hT⟩ : ∃ T, (doneN eps none l).map coN = T := ⟨_, rfl⟩
     rw [hq] at KF hel
     rw [hT] at HO
     have hTl : T.length ≤ i := by have := Hn.out; rw [← hT, List.length_map]; omega
     rw [hq, hT] at hal
     have Hal := hide hal
     obtain ⟨X, hX⟩ : ∃ X, stN eps (stateN eps none l) = X := ⟨_, rfl⟩
     rw [hX] at KF ld HP
     have KF := hide KF
     have hle : T.length + q.length ≤ 8796093022208 := by omega
     clear hok hdl hq hT hX hal hli
     go_wp2_with (refine wl_load (by kernel_rfl) rfl rfl ld ?_)
     (with_reducible refine (KF.out _).mono ?_)
     rintro e w6 ⟨A6, k6, rfl, hO6, hE6⟩
     have O6 := hide (HO.out.ext hE6)
     have Q6 := hide (own_co hO6)
     have E6 := hide (HE.out.trans hE6)
     have hz6 : g + 2 ≤ w6.heap.size := (Nat.le_trans hgr hE6.size)
     clear hO6 hE6 ld cf
     go_wp2_with (at_builtin; refine wl_appendC rfl (.tmp 30) (.tmp 34) rfl (g + 2) _ T q rfl O6.out A6 _ k6 rfl Q6.out rfl hle hz6 ?_; intro v10 w10 hO10 hG10 hA10; have E10 := hide (below_grownC (B := g + 2) E6.out (by rw [Hg.out]; omega) O6.out hG10); have O10 := hide hO10; clear hO10 hG10 hA10)
     obtain ⟨A1, c1, rfl, _, _, _⟩ := O10.out.at_
     go_ret
     rw [Hal.out]
     exact ⟨A1, c1, rfl, O10.out.less (by rw [Hg.out]; omega), E10.out⟩
theorem p_allTe (A : Option Addr) (n c : Nat) (eps : Int) (W : World) (ht : tolB eps = false) : Calls Try.prog 18 #[.slice A n c, .int .i64 eps] W (CoFin [] 9 W) := by
 have KS := hide fun w => p_startE_no eps w (hide fun w => pm_tol eps w false ht)
 unfold z9m at *
 clear ht
 go_enter Try.func18, Try.ntmps18
 go_wp2_with (go_at_call 9; (with_reducible refine (KS.out _).mono ?_); rintro e w1 ⟨rfl, hE⟩; have E1 := hide hE; clear hE)
 go_ret2
 exact ⟨none, 0, rfl, OwnC.nil_ _ _, E1.out.trans (ext_alloc _ _)⟩
theorem p_allLe (A : Option Addr) (n c : Nat) (eps : Int) (W : World) (ht : tolB eps = true) (hn : 1073741824 < n) : Calls Try.prog 18 #[.slice A n c, .int .i64 eps] W (CoFin [] 3 W) := by
 have KS := hide fun w => p_startE eps w (hide fun w => pm_tol eps w true ht)
 have d0 : decide ((1073741824 : Int) < (n : Int)) = true := decide_eq_true (by omega)
 unfold meC meR at *
 clear ht hn
 go_enter Try.func18, Try.ntmps18
 go_wp2_with (go_at_call 9; (with_reducible refine (KS.out _).mono ?_); rintro e w1 ⟨rfl, hE⟩; have E1 := hide hE; clear hE)
 go_ret2
 exact ⟨none, 0, rfl, OwnC.nil_ _ _, E1.out.trans (ext_alloc _ _)⟩
set_option maxHeartbeats 3200000 in
set_option maxRecDepth 100000 in
theorem p_allGe (A : Option Addr) (n c : Nat) (l : List Int) (eps : Int) (W : World) (he : Tol eps) (hl : TimesAt W A l) (hn : l.length = n) (hn2 : n ≤ 1073741824) : Calls Try.prog 18 #[.slice A n c, .int .i64 eps] W (CoFin ((allN eps l).map coN) 0 W) := by
 have KS := hide fun w => p_startE eps w (hide fun w => pm_tol eps w true (tolB_iff.2 he))
 have d0 : decide ((1073741824 : Int) < (n : Int)) = false := decide_eq_false (by omega)
 have KM := hide fun w => p_means w
 have KA : Hid (∀ w, Ext W w → Calls Try.prog 43 #[.agg sgN, .agg #[.int .i64 eps, .int .i64 0, .int .i64 0, .int .i64 0, .bool (sg 0), .int .u64 (l0 0 : Int), .int .u64 (l1 0 : Int), .int .u64 (l2 0 : Int), .int .u64 (l3 0 : Int)], .slice A n c] w (CoGet ((allN eps l).map coN) w)) := hide fun w h => p_segAll A n c l eps w he (hl.ext h) hn hn2
 obtain ⟨T, hT⟩ : ∃ T, (allN eps l).map coN = T := ⟨_, rfl⟩
 rw [hT] at KA ⊢
 clear hl hn he hT
 unfold meC meR at KS
 go_enter Try.func18, Try.ntmps18
 go_upto_region 6 with (go_at_call 9; (with_reducible refine (KS.out _).mono ?_); rintro e w1 ⟨rfl, hE⟩; have E1 := hide hE; clear hE)
 have P6 := Blk.new w1 27 #[.int .i64 eps, .int .i64 0, .int .i64 0, .int .i64 0, .bool (sg 0), .int .u64 (l0 0 : Int), .int .u64 (l1 0 : Int), .int .u64 (l2 0 : Int), .int .u64 (l3 0 : Int)]
 have E2 := hide (E1.out.trans (ext_alloc w1 (.cells #[.int .i64 eps, .int .i64 0, .int .i64 0, .int .i64 0, .bool (sg 0), .int .u64 (l0 0 : Int), .int .u64 (l1 0 : Int), .int .u64 (l2 0 : Int), .int .u64 (l3 0 : Int)] 27)))
 obtain ⟨g, hg⟩ : ∃ g, w1.heap.size = g := ⟨_, rfl⟩
 obtain ⟨w2, hw2⟩ : ∃ w, w1.alloc (.cells #[.int .i64 eps, .int .i64 0, .int .i64 0, .int .i64 0, .bool (sg 0), .int .u64 (l0 0 : Int), .int .u64 (l1 0 : Int), .int .u64 (l2 0 : Int), .int .u64 (l3 0 : Int)] 27) = w := ⟨_, rfl⟩
 rw [hw2, hg] at P6
 rw [hw2] at E2
 rw [hw2, hg]
 have P6 := hide P6
 clear hw2 hg E1
 have P6 : Hid (Blk w2 g 27 (meC eps 0 0 0 0)) := P6
 have s0 : w2.drew.cell? ⟨g, 0, none⟩ = some (.int .i64 eps) := P6.out.cell 0
 have s1 : w2.drew.cell? ⟨g, 1, none⟩ = some (.int .i64 0) := P6.out.cell 1
 have s2 : w2.drew.cell? ⟨g, 2, none⟩ = some (.int .i64 0) := P6.out.cell 2
 have s3 : w2.drew.cell? ⟨g, 3, none⟩ = some (.int .i64 0) := P6.out.cell 3
 have s4 : w2.drew.cell? ⟨g, 4, none⟩ = some (.bool (sg 0)) := P6.out.cell 4
 have s5 : w2.drew.cell? ⟨g, 5, none⟩ = some (.int .u64 (l0 0 : Int)) := P6.out.cell 5
 have s6 : w2.drew.cell? ⟨g, 6, none⟩ = some (.int .u64 (l1 0 : Int)) := P6.out.cell 6
 have s7 : w2.drew.cell? ⟨g, 7, none⟩ = some (.int .u64 (l2 0 : Int)) := P6.out.cell 7
 have s8 : w2.drew.cell? ⟨g, 8, none⟩ = some (.int .u64 (l3 0 : Int)) := P6.out.cell 8
 go_region_law (first
   | (go_simp; go_at_call 42; (with_reducible refine (KM.out _).mono ?_); rintro e w3 ⟨rfl, hE3⟩; have E3 := hide ((E2.out.trans (ext_drew w2)).trans hE3); have R6 : Hid (Blk w3 g 27 (meC eps 0 0 0 0)) := hide ((P6.out.ext (ext_drew w2)).ext hE3); have r0 : w3.cell? ⟨g, 0, none⟩ = some (.int .i64 eps) := R6.out.cell 0; have r1 : w3.cell? ⟨g, 1, none⟩ = some (.int .i64 0) := R6.out.cell 1; have r2 : w3.cell? ⟨g, 2, none⟩ = some (.int .i64 0) := R6.out.cell 2; have r3 : w3.cell? ⟨g, 3, none⟩ = some (.int .i64 0) := R6.out.cell 3; have r4 : w3.cell? ⟨g, 4, none⟩ = some (.bool (sg 0)) := R6.out.cell 4; have r5 : w3.cell? ⟨g, 5, none⟩ = some (.int .u64 (l0 0 : Int)) := R6.out.cell 5; have r6 : w3.cell? ⟨g, 6, none⟩ = some (.int .u64 (l1 0 : Int)) := R6.out.cell 6; have r7 : w3.cell? ⟨g, 7, none⟩ = some (.int .u64 (l2 0 : Int)) := R6.out.cell 7; have r8 : w3.cell? ⟨g, 8, none⟩ = some (.int .u64 (l3 0 : Int)) := R6.out.cell 8; have ka := hide (KA.out w3 E3.out); clear hE3)
   | (go_simp; go_at_call 43; (with_reducible refine (ka.out).mono ?_); rintro e w4 ⟨A4, k4, rfl, hO4, hE4⟩; have O4 := hide (hO4.less (B' := W.heap.size) E3.out.size); have E4 := hide (E3.out.trans hE4); clear hO4 hE4))
 all_goals go_wp2_with fail
 all_goals go_ret2
 all_goals exact ⟨A4, k4, rfl, O4.out, E4.out⟩
theorem p_allNF (A : Option Addr) (n c : Nat) (l : List Int) (eps : Int) (W : World) (hl : TimesAt W A l) (hn : l.length = n) : Calls Try.prog 18 #[.slice A n c, .int .i64 eps] W (CoFin (allNF eps l).1 (allNF eps l).2 W) := by
 unfold allNF
 cases ht : tolB eps with
 | false => exact p_allTe A n c eps W ht
 | true =>
   rw [if_pos rfl]
   by_cases h : 1073741824 < l.length
   · rw [if_pos h]
     exact p_allLe A n c eps W ht (by omega)
   · rw [if_neg h]
     exact p_allGe A n c l eps W (tolB_iff.1 ht) hl hn (by omega)
end
section
open Go Go.RowKit Go.Sort
theorem k16a : allNF 2 [0, 0, 0, 4] = ([(3, 0), (1, 4)], 0) := by decide +kernel
theorem k16b : allNF 2 [0, 3] = ([(2, 1)], 0) := by decide +kernel
set_option maxRecDepth 100000 in
theorem l_known16 (W : World) : Calls Try.prog 14 #[] W (Ret (.bool true) W) := by
 have E0 := hide (ext_alloc W (.cells #[.int .i64 0, .int .i64 0, .int .i64 0, .int .i64 4] 2))
 have H0 := new_atT W [0, 0, 0, 4] (by intro x hx; simp at hx; unfold I64; omega) (by simp) #[.int .i64 0, .int .i64 0, .int .i64 0, .int .i64 4] rfl
 have KA := p_allNF (some ⟨W.heap.size, 0, none⟩) 4 4 [0, 0, 0, 4] 2 _ H0 rfl
 rw [k16a] at KA
 have KA := hide KA
 have e1 := fun w => eqC2 3 0 3 0 w
 have e2 := fun w => eqC2 2 1 2 1 w
 clear H0
 go_enter Try.func14, Try.ntmps14
 go_upto_region 2 with (go_at_call 18; (with_reducible refine (KA.out).mono ?_); rintro e w1 ⟨A1, c1, rfl, hO, hE⟩)
 have E1 := hide (E0.out.trans hE)
 have O1 := hide (own_co hO)
 clear hO hE KA E0
 have E2 := hide (ext_alloc w1 (.cells #[.int .i64 0, .int .i64 3] 2))
 have H1 := new_atT w1 [0, 3] (by intro x hx; simp at hx; unfold I64; omega) (by simp) #[.int .i64 0, .int .i64 3] rfl
 have KB := p_allNF (some ⟨w1.heap.size, 0, none⟩) 2 2 [0, 3] 2 _ H1 rfl
 rw [k16b] at KB
 have KB := hide KB
 clear H1
 go_upto_region 3 with (go_at_call 18; (with_reducible refine (KB.out).mono ?_); rintro e w3 ⟨A3, c3, rfl, hO, hE⟩)
 have E3 := hide (E1.out.trans (E2.out.trans hE))
 obtain ⟨b1, o1, rfl, _, hc1⟩ := ((O1.out.ext E2.out).ext hE).2.2 (by simp)
 obtain ⟨b3, o3, rfl, _, hc3⟩ := (own_co hO).2.2 (by simp)
 have p0 : w3.cell? ⟨b1, o1, none⟩ = some (.int .i64 3) := (hc1 0 (by simp)).1
 have p1 : w3.cell? ⟨b1, o1 + 1, none⟩ = some (.int .i64 0) := (hc1 0 (by simp)).2
 have q0 : w3.cell? ⟨b3, o3, none⟩ = some (.int .i64 2) := (hc3 0 (by simp)).1
 have q1 : w3.cell? ⟨b3, o3 + 1, none⟩ = some (.int .i64 1) := (hc3 0 (by simp)).2
 have ix0 : ∀ w, (Instr.indexAt 46 (.slice (some ⟨b1, o1, none⟩) 2 c1) (.int .i64 0)).run Try.prog w = .ok (.pointer (some ⟨b1, o1, none⟩)) w := fun w => idxC b1 o1 2 c1 0 (by decide) w
 have ix1 : ∀ w, (Instr.indexAt 46 (.slice (some ⟨b3, o3, none⟩) 1 c3) (.int .i64 0)).run Try.prog w = .ok (.pointer (some ⟨b3, o3, none⟩)) w := fun w => idxC b3 o3 1 c3 0 (by decide) w
 clear hc1 hc3 hO hE KB O1 E1 E2
 go_wp2_with fail
 go_ret
 exact ⟨rfl, E3.out⟩
theorem p_badI {t c lo hi : Int} {s : Bool} {a b d e : Nat} (v : Int) (kv : ∀ w, Calls Try.prog 38 #[.agg (meR t c lo hi s a b d e)] w (Ret (.bool false) w)) (kr : ∀ w, Calls Try.prog 39 #[.agg (meR t c lo hi s a b d e)] w (Ret (.bool false) w)) :
   (∀ w, Calls Try.prog 35 #[.agg (meR t c lo hi s a b d e), .int .i64 v] w (CoTrip z9m [] 1 w)) ∧ (∀ w, Calls Try.prog 24 #[.agg (meR t c lo hi s a b d e), .int .i64 v] w (CoTrip z9m [] 1 w)) ∧ (∀ w, Calls Try.prog 36 #[.agg (meR t c lo hi s a b d e)] w (CoFin [] 1 w)) ∧ (∀ w, Calls Try.prog 37 #[.agg (meR t c lo hi s a b d e)] w (CoFin [] 1 w)) :=
 ⟨fun w => (p_stepIe _ _ t c lo hi (meX_raw _ _ _ _ _ _ _ _ _) v (hide kv) w).mono fun _ _ h => trip_nil h, fun w => (r_stepIe _ _ t c lo hi (meX_raw _ _ _ _ _ _ _ _ _) v (hide kr) w).mono fun _ _ h => trip_nil h, fun w => p_finN _ _ t c lo hi (meX_raw _ _ _ _ _ _ _ _ _) (hide kv) w, fun w => r_finNe _ _ t c lo hi (meX_raw _ _ _ _ _ _ _ _ _) (hide kr) w⟩
theorem bothE {t c lo hi : Int} {s : Bool} {a b d e : Nat} {z : Int} (v : Int) (ht : I64 t) (ic : I64 c) (hl : I64 lo) (hh : I64 hi) (hw : IsW s a b d e z) (hv : I64 v) : ∃ (t' c' a' b' z' : Int) (l lf : List (Int × Int)) (er ef : Nat) (vv : Bool),
   (∀ w, Calls Try.prog 35 #[.agg (meR t c lo hi s a b d e), .int .i64 v] w (CoTrip (meC t' c' a' b' z') l er w)) ∧ (∀ w, Calls Try.prog 24 #[.agg (meR t c lo hi s a b d e), .int .i64 v] w (CoTrip (meC t' c' a' b' z') l er w)) ∧
   (∀ w, Calls Try.prog 36 #[.agg (meR t c lo hi s a b d e)] w (CoFin lf ef w)) ∧ (∀ w, Calls Try.prog 37 #[.agg (meR t c lo hi s a b d e)] w (CoFin lf ef w)) ∧
   (∀ w, Calls Try.prog 38 #[.agg (meR t c lo hi s a b d e)] w (Ret (.bool vv) w)) ∧ (∀ w, Calls Try.prog 39 #[.agg (meR t c lo hi s a b d e)] w (Ret (.bool vv) w)) := by
 have bad : ∀ (k1 : ∀ w, Calls Try.prog 38 #[.agg (meR t c lo hi s a b d e)] w (Ret (.bool false) w)) (k2 : ∀ w, Calls Try.prog 39 #[.agg (meR t c lo hi s a b d e)] w (Ret (.bool false) w)), _ := fun k1 k2 => by
   have h := p_badI v k1 k2
   rw [z9m_is] at h
   exact (⟨0, 0, 0, 0, 0, [], [], 1, 1, false, h.1, h.2.1, h.2.2.1, h.2.2.2, k1, k2⟩ : ∃ (t' c' a' b' z' : Int) (l lf : List (Int × Int)) (er ef : Nat) (vv : Bool), (∀ w, Calls Try.prog 35 #[.agg (meR t c lo hi s a b d e), .int .i64 v] w (CoTrip (meC t' c' a' b' z') l er w)) ∧ (∀ w, Calls Try.prog 24 #[.agg (meR t c lo hi s a b d e), .int .i64 v] w (CoTrip (meC t' c' a' b' z') l er w)) ∧ (∀ w, Calls Try.prog 36 #[.agg (meR t c lo hi s a b d e)] w (CoFin lf ef w)) ∧ (∀ w, Calls Try.prog 37 #[.agg (meR t c lo hi s a b d e)] w (CoFin lf ef w)) ∧ (∀ w, Calls Try.prog 38 #[.agg (meR t c lo hi s a b d e)] w (Ret (.bool vv) w)) ∧ (∀ w, Calls Try.prog 39 #[.agg (meR t c lo hi s a b d e)] w (Ret (.bool vv) w)))
 by_cases hb : s = true ∧ z = 0
 · exact bad (fun w => (both_bad hw hb w).1) (fun w => (both_bad hw hb w).2)
 · obtain ⟨hr, hz⟩ := meR_valid (t := t) (c := c) (lo := lo) (hi := hi) hw hb
   cases hok : vM t c lo hi z with
   | false => exact bad (fun w => by rw [hr]; exact p_validM t c lo hi z ht ic hl hh hz false hok w) (fun w => by rw [hr]; exact r_validM t c lo hi z ht ic hl hh hz false hok w)
   | true =>
     obtain ⟨he, s', hs, h1⟩ := vM_st hl hh hok
     rw [hr, h1]
     obtain ⟨c', a', b', z', h2⟩ := row_N t (stepN t s' v).1
     have kp := fun w => p_stepFe t s' v he hs hv w
     have kr := fun w => r_stepFe t s' v he hs hv w
     unfold stepFe at kp kr
     by_cases hc : cntN s' = 1073741824
     · rw [if_pos hc, z9m_is] at kp kr
       exact ⟨0, 0, 0, 0, 0, [], (endN s').map coN, 3, 0, true, kp, kr, fun w => p_finSe t s' he hs w, fun w => r_finSe t s' he hs w, fun w => p_validV t s' he hs w, fun w => r_validV t s' he hs w⟩
     · rw [if_neg hc, h2] at kp kr
       exact ⟨t, c', a', b', z', (stepN t s' v).2.map coN, (endN s').map coN, 0, 0, true, kp, kr, fun w => p_finSe t s' he hs w, fun w => r_finSe t s' he hs w, fun w => p_validV t s' he hs w, fun w => r_validV t s' he hs w⟩
set_option maxHeartbeats 6400000 in
set_option maxRecDepth 100000 in
theorem l_alike16 {t c lo hi : Int} {s : Bool} {a b d e : Nat} {z : Int} (v : Int) (W : World) (ht : I64 t) (ic : I64 c) (hl : I64 lo) (hh : I64 hi) (hw : IsW s a b d e z) (hv : I64 v) : Calls Try.prog 15 #[.agg (meR t c lo hi s a b d e), .int .i64 v] W (Ret (.bool true) W) := by
 obtain ⟨t', c', a', b', z', l, lf, er, ef, vv, k1, k2, k3, k4, k5, k6⟩ := bothE v ht ic hl hh hw hv
 have sX := (meX_raw t c lo hi s a b d e).s
 obtain ⟨X, hX⟩ : ∃ X, meR t c lo hi s a b d e = X := ⟨_, rfl⟩
 have em : ∀ w, (binOp .eql 27 (.agg (meC t' c' a' b' z')) (.agg (meC t' c' a' b' z'))).run Try.prog w = .ok (.bool true) w := fun w => eqMR _ _ _ _ _ _ _ _ _ w
 have sY := (meX_of t' c' a' b' z').s
 have oY := (meX_of t' c' a' b' z').o
 obtain ⟨Y, hY⟩ : ∃ Y, meC t' c' a' b' z' = Y := ⟨_, rfl⟩
 rw [hX] at k1 k2 k3 k4 k5 k6 sX ⊢
 rw [hY] at k1 k2 em sY oY
 have k1 := hide k1
 have k2 := hide k2
 have k3 := hide k3
 have k4 := hide k4
 have k5 := hide k5
 have k6 := hide k6
 clear hX hY ht ic hl hh hw hv
 have P2 := Blk.new W 27 X
 have EE := hide (ext_alloc W (.cells X 27))
 obtain ⟨W1, hW1⟩ : ∃ W1, (W.alloc (.cells X 27)) = W1 := ⟨_, rfl⟩
 obtain ⟨g0, hg⟩ : ∃ g, W.heap.size = g := ⟨_, rfl⟩
 rw [hW1] at P2 EE
 rw [hg] at P2
 have HW := hide hW1
 have Hg := hide hg
 clear hW1 hg
 go_enter Try.func15, Try.ntmps15
 go_upto_region 1 with fail
 rw [HW.out, Hg.out]
 clear HW Hg
 have LD2 : Hid (∀ w, Ext W1 w → (Instr.loadAt 27 (.pointer (some ⟨g0, 0, none⟩))).run Try.prog w = .ok (.agg X) w) := hide (fun w h => ld_all (P2.ext h) uMean rfl iMean sX)
 have l2 := LD2.out W1 (Ext.refl _)
 have XX0 : Hid (Ext W1 W1) := Ext.refl _
 have B2 := hide P2
 clear P2
 go_upto_region 2 with (first
   | (refine wl_load (by kernel_rfl) rfl rfl l2 ?_)
   | (go_at_call 35; (with_reducible refine (k1.out _).mono ?_); rintro e v1 ⟨A1, c1, rfl, O1, E1⟩; have L1 := hide (own_co O1); have F1 := hide E1; have st := st_all (Y := Y) (Blk.new v1 27 z9m) iMean rfl sY oY; unfold z9m at st; clear l2 O1 E1)
   | (refine wl_store (by kernel_rfl) rfl rfl rfl st ?_))
 have P5 := (Blk.new v1 27 z9m).setRow Y
 have G1 : Ext W1 _ := ext_row ((F1.out).trans (ext_alloc v1 (.cells z9m 27 (0, 0)))) F1.out.size Y
 have G1' : Ext v1 _ := ext_row (ext_alloc v1 (.cells z9m 27 (0, 0))) (Nat.le_refl _) Y
 unfold z9m at P5 G1 G1'
 generalize hw : World.setRow _ _ Y = w1 at P5 G1 G1' ⊢
 generalize hh : v1.heap.size = g5 at P5 ⊢
 have XX1 := hide (XX0.out.trans G1)
 replace L1 := hide (L1.out.ext G1')
 clear hw hh G1' st
 clear G1 F1
 have l2 := LD2.out w1 XX1.out
 go_upto_region 3 with (first
   | (refine wl_load (by kernel_rfl) rfl rfl l2 ?_)
   | (go_at_call 24; (with_reducible refine (k2.out _).mono ?_); rintro e v2 ⟨A2, c2, rfl, O2, E2⟩; have L2 := hide (own_co O2); have F2 := hide E2; have st := st_all (Y := Y) (Blk.new v2 27 z9m) iMean rfl sY oY; unfold z9m at st; clear l2 O2 E2)
   | (refine wl_store (by kernel_rfl) rfl rfl rfl st ?_))
 have P8 := (Blk.new v2 27 z9m).setRow Y
 have G2 : Ext w1 _ := ext_row ((F2.out).trans (ext_alloc v2 (.cells z9m 27 (0, 0)))) F2.out.size Y
 have G2' : Ext v2 _ := ext_row (ext_alloc v2 (.cells z9m 27 (0, 0))) (Nat.le_refl _) Y
 unfold z9m at P8 G2 G2'
 generalize hw : World.setRow _ _ Y = w2 at P8 G2 G2' ⊢
 generalize hh : v2.heap.size = g8 at P8 ⊢
 have XX2 := hide (XX1.out.trans G2)
 replace L2 := hide (L2.out.ext G2')
 clear hw hh G2' st
 have P5 := P5.ext G2
 have L1 := hide (L1.out.ext G2)
 clear G2 F2 XX1
 have l2 := LD2.out w2 XX2.out
 go_upto_region 4 with (first
   | (refine wl_load (by kernel_rfl) rfl rfl l2 ?_)
   | (go_at_call 36; (with_reducible refine (k3.out _).mono ?_); rintro e w3 ⟨A3, c3, rfl, O3, E3⟩; have L3 := hide (own_co O3); have F3 := hide E3; have l2 := LD2.out w3 (XX2.out.trans E3); clear O3 E3))
 have XX3 := hide (XX2.out.trans F3.out)
 have P5 := P5.ext F3.out
 have L1 := hide (L1.out.ext F3.out)
 have P8 := P8.ext F3.out
 have L2 := hide (L2.out.ext F3.out)
 clear F3 XX2
 go_upto_region 5 with (first
   | (refine wl_load (by kernel_rfl) rfl rfl l2 ?_)
   | (go_at_call 37; (with_reducible refine (k4.out _).mono ?_); rintro e w4 ⟨A4, c4, rfl, O4, E4⟩; have L4 := hide (own_co O4); have F4 := hide E4; have l2 := LD2.out w4 (XX3.out.trans E4); clear O4 E4))
 have XX4 := hide (XX3.out.trans F4.out)
 have P5 := P5.ext F4.out
 have L1 := hide (L1.out.ext F4.out)
 have P8 := P8.ext F4.out
 have L2 := hide (L2.out.ext F4.out)
 have L3 := hide (L3.out.ext F4.out)
 clear F4 XX3
 clear l2
 have J1 := hide (fun w (h : Ext w4 w) => r_sameC A1 A2 _ c1 c2 l w (L1.out.ext h) rfl (L2.out.ext h))
 have J2 := hide (fun w (h : Ext w4 w) => r_sameC A3 A4 _ c3 c4 lf w (L3.out.ext h) rfl (L4.out.ext h))
 have P2 := B2.out.ext XX4.out
 have b1 : (vv == vv) = true := by simp
 have b2 : ((er : Int) == (er : Int)) = true := by simp
 have b3 : ((ef : Int) == (ef : Int)) = true := by simp
 clear L1 L2 L3 L4 LD2 B2 k1 k2 k3 k4
 replace EE := hide (EE.out.trans XX4.out)
 clear XX4
 refine wp_region_quiet_below (by kernel_rfl) (by kernel_rfl) ?_
 repeat (first | go_big_quiet_step (first | with_reducible exact quiet_ret (k5.out _) | with_reducible exact quiet_ret (k6.out _) | with_reducible exact quiet_ret (J1.out _ (ext_regrown w4 _ _)) | with_reducible exact quiet_ret (J2.out _ (ext_regrown w4 _ _))) | (refine wq_load (by kernel_rfl) rfl rfl (fun w hw => by obtain ⟨⟨d, os⟩, rfl⟩ := hw; exact ld_all ((P2).ext (ext_regrown w4 d os)) uMean rfl iMean sX) ?_) | (refine wq_load (by kernel_rfl) rfl rfl (fun w hw => by obtain ⟨⟨d, os⟩, rfl⟩ := hw; exact ld_all ((P5).ext (ext_regrown w4 d os)) uMean rfl iMean sY) ?_) | (refine wq_load (by kernel_rfl) rfl rfl (fun w hw => by obtain ⟨⟨d, os⟩, rfl⟩ := hw; exact ld_all ((P8).ext (ext_regrown w4 d os)) uMean rfl iMean sY) ?_) | quiet_step (first | with_reducible exact quiet_ret (k5.out _) | with_reducible exact quiet_ret (k6.out _) | with_reducible exact quiet_ret (J1.out _ (ext_regrown w4 _ _)) | with_reducible exact quiet_ret (J2.out _ (ext_regrown w4 _ _))))
 refine wpQuiet_nil ?_
 intro _ hw'
 obtain ⟨⟨dq, osq⟩, hw''⟩ := hw'
 subst hw''
 replace EE := hide (EE.out.trans (ext_regrown w4 dq osq))
 go_wp2_with fail
 go_ret
 exact ⟨rfl, EE.out⟩
end
section
open Go Go.RowKit
def ValsPost (N B b : Nat) (W : World) (e : Ending) (w' : World) : Prop := ∃ A n cap l, e = .returned (.slice A n cap) ∧ l.length = n ∧ n ≤ N ∧ n ≤ cap ∧ cap ≤ 9223372036854775807 ∧ OwnT W.heap.size w' (.slice A n cap) l ∧ TapeOk B w' b ∧ Upd b W w'
set_option maxHeartbeats 3200000 in
set_option maxRecDepth 100000 in
theorem t_values (N B b : Nat) (hN : N ≤ 1000) (W : World) (hT : TapeOk B W b) : Calls Try.prog 16 #[.pointer (some ⟨b, 0, none⟩), .int .i64 (N : Int)] W (ValsPost N B b W) := by
 have KT := hide (t_samples N B b hN W hT)
 have hbW := hT.2.1
 clear hT
 go_enter Try.func16, Try.ntmps16
 go_upto_region 2 with (go_at_call 40; (with_reducible refine (KT.out).mono ?_); rintro e w1 ⟨Am, n, cap, m, rfl, hm, hnN, hncap, hncap2, -, hO, T1, u1⟩; have T1 := hide T1; have U1 := hide u1; have M1 := hide (own_samps hO); have Hm := hide hm; clear hO hm u1)
 have hB1 : W.heap.size ≤ w1.heap.size := U1.out.2.2.2.1
 have E1 : Hid (Ext w1 w1) := Ext.refl _
 have Hs := hide M1.out.1
 clear KT
 go_wp2_with fail
 go_loopw [6, 7] (fun lv iv wr => ∃ i : Nat, i ≤ n ∧ iv = .int .i64 (i : Int) ∧ Hid (OwnT w1.heap.size wr lv ((m.map Prod.snd).take i)) ∧ Hid (Ext w1 wr)) (fun _ iv _ => n - (intOf iv).toNat)
 case atStart => exact ⟨0, by omega, rfl, hide (OwnT.nil_ _ _), E1⟩
 case round =>
   clear E1
   obtain ⟨i, hi, rfl, HO, HE⟩ := hrel
   by_cases hlt : i < n
   · have d0 : decide ((i : Int) < (n : Int)) = true := decide_eq_true (by omega)
     have him : i < m.length := by rw [Hm.out]; exact hlt
     obtain ⟨bm, om, rfl, _, hc⟩ := (M1.out.ext HE.out).2.2 (by omega)
     have ct := (hc i him).2
     rw [← Nat.add_assoc] at ct
     have ix := fun w => idxS bm om n cap i hlt w
     have hst := takeT_succ (l := m.map Prod.snd) (k := i) (by rw [List.length_map]; exact him)
     have hget : (m.map Prod.snd).getD i 0 = (m.getD i (0, 0)).2 := by simp [List.getD_eq_getElem?_getD, him]
     have hx := (Hs.out.get i).2
     obtain ⟨x, hxx⟩ : ∃ x, (m.getD i (0, 0)).2 = x := ⟨_, rfl⟩
     rw [hxx] at ct hx hget
     rw [hget] at hst
     have hle : ((m.map Prod.snd).take i).length + [x].length ≤ 17592186044416 := by rw [List.length_take, List.length_map, Hm.out]; simp; omega
     have Hst := hide hst
     have O3 := hide (HO.out.alloc (.cells #[Value.int .i64 x] 2))
     have hone := hide (one_atT wr x hx _ rfl)
     have E3 := hide (Ext.trans HE.out (ext_alloc wr (.cells #[Value.int .i64 x] 2)))
     obtain ⟨T, hT⟩ : ∃ T, (m.map Prod.snd).take i = T := ⟨_, rfl⟩
     rw [hT] at O3 Hst hle
     clear hc him hst hget hxx hT HO HE
     go_wp2_with (at_builtin; refine wl_appendT rfl (.tmp 17) (.tmp 23) rfl w1.heap.size _ T [x] rfl O3.out _ 1 1 rfl hone.out rfl hle E3.out.size ?_; intro v6 w6 hO6 hG6 hA6)
     have O6 : Hid (OwnT w1.heap.size w6 v6 ((m.map Prod.snd).take (i + 1))) := by show OwnT _ _ _ _; rw [Hst.out]; exact hO6
     have E6 := hide (below_grownT E3.out (Nat.le_refl _) O3.out hG6)
     clear hO6 hG6 hA6 O3 E3
     go_roundw
     case rel => exact ⟨i + 1, by omega, by go_num, O6, E6⟩
     case measure => simp [intOf]; omega
   · obtain rfl : i = n := by omega
     have d0 : decide ((i : Int) < (i : Int)) = false := decide_eq_false (by omega)
     go_wp2_with fail
     go_ret
     have hO := HO.out
     rw [List.take_of_length_le (by rw [List.length_map, Hm.out]; omega)] at hO
     obtain ⟨A, c, hv, h1, h2, h3⟩ := hO.at_
     subst hv
     have hll : (m.map Prod.snd).length = i := by rw [List.length_map, Hm.out]
     exact ⟨A, _, c, _, rfl, rfl, by omega, h1, h2, hO.less hB1, T1.out.ext HE.out, U1.out.trans (Ext.upd HE.out b)⟩
end
section
open Go Go.RowKit Go.Sort
def StPostE (B b : Nat) (W : World) (e : Ending) (w' : World) : Prop := ∃ t c lo hi z v : Int, e = .returned (.tuple #[.agg (meC t c lo hi z), .int .i64 v]) ∧ I64 t ∧ I64 c ∧ I64 lo ∧ I64 hi ∧ z.natAbs < 19807040628566084398385987584 ∧ I64 v ∧ TapeOk B w' b ∧ Upd b W w'
theorem st_i64N {eps : Int} (he : Tol eps) {s : Option Mn} (hs : OkV eps s) : ∃ c lo hi z : Int, stN eps s = meC eps c lo hi z ∧ I64 c ∧ I64 lo ∧ I64 hi ∧ z.natAbs < 19807040628566084398385987584 := by
 rcases s with _ | ⟨n, lo, hi, sm⟩
 · exact ⟨0, 0, 0, 0, rfl, i64_0, i64_0, i64_0, by decide⟩
 · exact ⟨n, lo, hi, sm, rfl, (okV_n hs).1, hs.2.2.1, hs.2.2.2.1, sum_size hs⟩
theorem res_st {w9 : World} {g2 b B : Nat} {W : World} {tol c0 lo0 hi0 z0 v : Int} (T9 : TapeOk B w9 b) (V9 : Upd b W w9) (itol : I64 tol) (ic : I64 c0) (il : I64 lo0) (ih : I64 hi0) (iz : z0.natAbs < 19807040628566084398385987584) (iv : I64 v) : StPostE B b W (.returned (.tuple #[.agg (meC tol c0 lo0 hi0 z0), .int .i64 v])) w9 := ⟨tol, c0, lo0, hi0, z0, v, rfl, itol, ic, il, ih, iz, iv, T9, V9⟩
set_option maxHeartbeats 12800000 in
set_option maxRecDepth 100000 in
theorem l_state16 (B b : Nat) (W : World) (hT : TapeOk B W b) : Calls Try.prog 8 #[.pointer (some ⟨b, 0, none⟩)] W (StPostE B b W) := by
 have X2 := ext_alloc W (.cells z9m 27)
 have P2 := Blk.new W 27 z9m
 have hbW := hT.2.1
 unfold z9m at X2 P2
 have kt := hide (t_tol B b (W.alloc (.cells #[.int .i64 0, .int .i64 0, .int .i64 0, .int .i64 0, .bool false, .int .u64 0, .int .u64 0, .int .u64 0, .int .u64 0] 27)) _ (hT.ext X2) (Upd.refl _ _))
 have P2 := hide P2
 have X2 := hide X2
 clear hT
 have KS : Hid (∀ tol, Tol tol → ∀ w, Calls Try.prog 10 #[.int .i64 tol] w (Ret (.tuple #[.agg (meC tol 0 0 0 0), .int .i64 0]) w)) := hide fun tol h w => r_startE tol w (hide fun w => r_tolI tol w true (tolB_iff.2 h))
 unfold meC meR at KS
 go_enter Try.func8, Try.ntmps8
 go_upto_region 2 with (first
   | (go_at_call 17; (with_reducible refine (kt.out).mono ?_); rintro e w1 ⟨tol, rfl, htol, T1, U1⟩; have ks := hide (KS.out tol htol w1); have Htol := hide htol; have T1 := hide T1; have U1 := hide U1; clear htol kt)
   | (go_at_call 10; (with_reducible refine (ks.out).mono ?_); rintro e w2 ⟨rfl, hE2⟩))
 have X3 := hE2.trans (ext_alloc w2 (.cells #[.int .i64 tol, .int .i64 0, .int .i64 0, .int .i64 0, .bool (sg 0), .int .u64 (l0 0 : Int), .int .u64 (l1 0 : Int), .int .u64 (l2 0 : Int), .int .u64 (l3 0 : Int)] 27))
 have P4 := Blk.new w2 27 (stN tol none)
 obtain ⟨g2, hg2⟩ : ∃ q, W.heap.size = q := ⟨_, rfl⟩
 obtain ⟨g4, hg4⟩ : ∃ q, w2.heap.size = q := ⟨_, rfl⟩
 have h24 : g2 < g4 := by have h1 := U1.out.2.2.2.1; have h2 := hE2.size; rw [alloc_size] at h1; omega
 have T3 := T1.out.ext X3
 have U3 : Upd b W (w2.alloc (.cells #[.int .i64 tol, .int .i64 0, .int .i64 0, .int .i64 0, .bool (sg 0), .int .u64 (l0 0 : Int), .int .u64 (l1 0 : Int), .int .u64 (l2 0 : Int), .int .u64 (l3 0 : Int)] 27)) := (X2.out.upd b).trans (U1.out.trans (X3.upd b))
 have P3 : Blk (w2.alloc (.cells #[.int .i64 tol, .int .i64 0, .int .i64 0, .int .i64 0, .bool (sg 0), .int .u64 (l0 0 : Int), .int .u64 (l1 0 : Int), .int .u64 (l2 0 : Int), .int .u64 (l3 0 : Int)] 27)) g2 27 #[.int .i64 0, .int .i64 0, .int .i64 0, .int .i64 0, .bool false, .int .u64 0, .int .u64 0, .int .u64 0, .int .u64 0] := by
   rw [← hg2]
   have h1 : Blk w1 W.heap.size 27 #[.int .i64 0, .int .i64 0, .int .i64 0, .int .i64 0, .bool false, .int .u64 0, .int .u64 0, .int .u64 0, .int .u64 0] := (U1.out.2.2.2.2 W.heap.size P2.out.lt (by omega)).trans P2.out
   exact h1.ext X3
 have P3 : Blk (w2.alloc (.cells #[.int .i64 tol, .int .i64 0, .int .i64 0, .int .i64 0, .bool (sg 0), .int .u64 (l0 0 : Int), .int .u64 (l1 0 : Int), .int .u64 (l2 0 : Int), .int .u64 (l3 0 : Int)] 27)) g2 27 (meC 0 0 0 0 0) := by rw [← z9m_is]; exact P3
 obtain ⟨w3, hw3⟩ : ∃ w, w2.alloc (.cells #[.int .i64 tol, .int .i64 0, .int .i64 0, .int .i64 0, .bool (sg 0), .int .u64 (l0 0 : Int), .int .u64 (l1 0 : Int), .int .u64 (l2 0 : Int), .int .u64 (l3 0 : Int)] 27) = w := ⟨_, rfl⟩
 have P4 : Blk w3 g4 27 (stN tol none) := by rw [← hw3, ← hg4]; exact P4
 rw [hw3] at T3 U3 P3
 rw [hw3, hg2, hg4]
 have kl : Hid (Calls Try.prog 16 #[.pointer (some ⟨b, 0, none⟩), .int .i64 12] w3 (ValsPost 12 B b w3)) := hide (t_values 12 B b (by omega) w3 T3)
 have P3 := hide P3
 have P4 := hide P4
 have U3 := hide U3
 have hb2 : b < g2 := by omega
 have hg2' := hide hg2
 clear hw3 hg4 hg2 T3 X3 T1 U1 P2 X2 hE2 KS ks
 go_upto_region 4 with (go_at_call 16; (with_reducible refine (kl.out).mono ?_); rintro e w4 ⟨Am, nm, capm, m, rfl, hnm, hn12, hncap, hncap2, hO, hT4, hU4⟩; have O4 := hide hO; have T4 := hide hT4; have U4 := hide hU4; clear hO hT4 hU4 hncap hncap2 kl)
 have Q2 : Hid (Blk w4 g2 27 (meC 0 0 0 0 0)) := hide ((U4.out.2.2.2.2 g2 P3.out.lt (by omega)).trans P3.out)
 have Q4 : Hid (Blk w4 g4 27 (stN tol none)) := hide ((U4.out.2.2.2.2 g4 P4.out.lt (by omega)).trans P4.out)
 have hg43 := P4.out.lt
 have V4 := hide (U3.out.trans U4.out)
 have Hnm := hide hnm
 have HI := hide O4.out.2
 clear P3 P4 U3 U4 hnm
 have EW : Hid (Upd g4 w4 w4) := Upd.refl _ _
 go_loopw [7] (fun iv wr => ∃ (i : Nat) (s : Option Mn), i ≤ nm ∧ iv = .int .i64 (i : Int) ∧ OkV tol s ∧ cntN s ≤ i ∧ Hid (Blk wr g4 27 (stN tol s)) ∧ Hid (Upd g4 w4 wr)) (fun iv _ => nm - (intOf iv).toNat)
 case atStart => exact ⟨0, none, by omega, rfl, trivial, Nat.le_refl _, Q4, EW⟩
 case round =>
   clear Q4 EW
   obtain ⟨i, s, hi, rfl, hok, hcnt, HP, HU⟩ := hrel
   have O5 := hide (O4.out.upd HU.out hg43)
   have ei : IntKind.i64.wrap ((i : Int) + 1) = (i : Int) + 1 := by rw [IntKind.wrap_i64]; omega
   by_cases hin : i + 1 < nm
   · have d0 : decide ((i : Int) + 1 < (nm : Int)) = true := decide_eq_true (by omega)
     obtain ⟨A', cap', hA', _, _, hM⟩ := O5.out.at_
     rw [Hnm.out] at hA'
     cases hA'
     obtain ⟨bm, om, rfl, _, hcm⟩ := hM.2.2 (by rw [Hnm.out]; omega)
     have ct := hcm i (by rw [Hnm.out]; omega)
     have ix := fun w => idxT bm om nm capm i (by omega) w
     have iv := HI.out.get i
     obtain ⟨v, hvv⟩ : ∃ v, m.getD i 0 = v := ⟨_, rfl⟩
     rw [hvv] at ct iv
     have hne : ¬ cntN s = 1073741824 := by omega
     have KS := fun w => r_stepFe tol s v Htol.out hok iv w
     unfold stepFe at KS
     rw [if_neg hne] at KS
     obtain ⟨hok2, hcnt2⟩ := step_okV Htol.out hok iv (by omega)
     obtain ⟨sn, hs2⟩ : ∃ z, (stepN tol s v).1 = z := ⟨_, rfl⟩
     obtain ⟨q, hq⟩ : ∃ z, (stepN tol s v).2.map coN = z := ⟨_, rfl⟩
     rw [hs2] at KS hok2 hcnt2
     rw [hq] at KS
     obtain ⟨c0, lo0, hi0, z0, hr0⟩ := row_N tol s
     obtain ⟨c1, lo1, hi1, z1, hr1⟩ := row_N tol sn
     rw [hr0] at KS HP
     rw [hr1] at KS
     have KS := hide KS
     have Hr1 := hide hr1
     have e0 : wr.cell? ⟨g4, 0, none⟩ = some (.int .i64 tol) := HP.out.cell 0
     have e1 : wr.cell? ⟨g4, 1, none⟩ = some (.int .i64 c0) := HP.out.cell 1
     have e2 : wr.cell? ⟨g4, 2, none⟩ = some (.int .i64 lo0) := HP.out.cell 2
     have e3 : wr.cell? ⟨g4, 3, none⟩ = some (.int .i64 hi0) := HP.out.cell 3
     have e4 : wr.cell? ⟨g4, 4, none⟩ = some (.bool (sg z0)) := HP.out.cell 4
     have e5 : wr.cell? ⟨g4, 5, none⟩ = some (.int .u64 (l0 z0 : Int)) := HP.out.cell 5
     have e6 : wr.cell? ⟨g4, 6, none⟩ = some (.int .u64 (l1 z0 : Int)) := HP.out.cell 6
     have e7 : wr.cell? ⟨g4, 7, none⟩ = some (.int .u64 (l2 z0 : Int)) := HP.out.cell 7
     have e8 : wr.cell? ⟨g4, 8, none⟩ = some (.int .u64 (l3 z0 : Int)) := HP.out.cell 8
     have hgW := HP.out.lt
     unfold meC meR at KS
     clear hcm hvv hne hs2 hq hr0 hr1 hM O5
     go_upto_region 6 with fail
     go_region_law (go_simp; go_at_call 24; (with_reducible refine (KS.out _).mono ?_); rintro e w6 ⟨A6, k6, rfl, hO6, hE6⟩; have E6 := hide ((ext_drew wr).trans hE6); have P7 : Hid (Blk w6 g4 27 (meC tol c0 lo0 hi0 z0)) := hide (HP.out.ext E6.out); have s0 : w6.cell? ⟨g4, 0, none⟩ = some (.int .i64 tol) := P7.out.cell 0; have s1 : w6.cell? ⟨g4, 1, none⟩ = some (.int .i64 c0) := P7.out.cell 1; have s2 : w6.cell? ⟨g4, 2, none⟩ = some (.int .i64 lo0) := P7.out.cell 2; have s3 : w6.cell? ⟨g4, 3, none⟩ = some (.int .i64 hi0) := P7.out.cell 3; have s4 : w6.cell? ⟨g4, 4, none⟩ = some (.bool (sg z0)) := P7.out.cell 4; have s5 : w6.cell? ⟨g4, 5, none⟩ = some (.int .u64 (l0 z0 : Int)) := P7.out.cell 5; have s6 : w6.cell? ⟨g4, 6, none⟩ = some (.int .u64 (l1 z0 : Int)) := P7.out.cell 6; have s7 : w6.cell? ⟨g4, 7, none⟩ = some (.int .u64 (l2 z0 : Int)) := P7.out.cell 7; have s8 : w6.cell? ⟨g4, 8, none⟩ = some (.int .u64 (l3 z0 : Int)) := P7.out.cell 8; have f0 := P7.out.frozen 0; have f1 := P7.out.frozen 1; have f2 := P7.out.frozen 2; have f3 := P7.out.frozen 3; have f4 := P7.out.frozen 4; have f5 := P7.out.frozen 5; have f6 := P7.out.frozen 6; have f7 := P7.out.frozen 7; have f8 := P7.out.frozen 8; clear hO6 hE6)
     all_goals
       have U9 := upd9 w6 g4 tol c1 lo1 hi1 z1
       have P9 := blk9 (t' := tol) (c' := c1) (lo' := lo1) (hi' := hi1) (z' := z1) P7.out
       have V9 := hide (HU.out.trans ((E6.out.upd g4).trans U9))
       obtain ⟨w9, hw9⟩ : ∃ w, (((((((((w6.setCell ⟨g4, 0, none⟩ (.int .i64 tol)).setCell ⟨g4, 1, none⟩ (.int .i64 c1)).setCell ⟨g4, 2, none⟩ (.int .i64 lo1)).setCell ⟨g4, 3, none⟩ (.int .i64 hi1)).setCell ⟨g4, 4, none⟩ (.bool (sg z1))).setCell ⟨g4, 5, none⟩ (.int .u64 (l0 z1 : Int))).setCell ⟨g4, 6, none⟩ (.int .u64 (l1 z1 : Int))).setCell ⟨g4, 7, none⟩ (.int .u64 (l2 z1 : Int))).setCell ⟨g4, 8, none⟩ (.int .u64 (l3 z1 : Int))) = w := ⟨_, rfl⟩
       rw [hw9] at P9 V9 ⊢
       have P9 : Hid (Blk w9 g4 27 (stN tol sn)) := by show Blk _ _ _ _; rw [Hr1.out]; exact P9
       clear hw9 U9 P7 E6 s0 s1 s2 s3 s4 s5 s6 s7 s8 f0 f1 f2 f3 f4 f5 f6 f7 f8 e0 e1 e2 e3 e4 e5 e6 e7 e8 HP HU KS ct
       go_wp2_with fail
       go_roundw
       case rel => exact ⟨i + 1, sn, by omega, by go_num, hok2, by omega, P9, V9⟩
       case measure => simp [intOf]; omega
   · have d0 : decide ((i : Int) + 1 < (nm : Int)) = false := decide_eq_false (by omega)
     obtain ⟨c0, lo0, hi0, z0, hr0, ic, il, ih, iz⟩ := st_i64N Htol.out hok
     rw [hr0] at HP
     have itol := tol64 Htol.out
     have hgw : W.heap.size ≤ g2 := Nat.le_of_eq hg2'.out
     have R2 := hide (show Blk wr g2 27 (meC 0 0 0 0 0) from (HU.out.2.2.2.2 g2 Q2.out.lt (by omega)).trans Q2.out)
     have T5 := hide (tape_upd T4.out HU.out (by omega))
     have V5 := hide (upd_new V4.out HU.out (by omega))
     have e0 : wr.cell? ⟨g4, 0, none⟩ = some (.int .i64 tol) := HP.out.cell 0
     have e1 : wr.cell? ⟨g4, 1, none⟩ = some (.int .i64 c0) := HP.out.cell 1
     have e2 : wr.cell? ⟨g4, 2, none⟩ = some (.int .i64 lo0) := HP.out.cell 2
     have e3 : wr.cell? ⟨g4, 3, none⟩ = some (.int .i64 hi0) := HP.out.cell 3
     have e4 : wr.cell? ⟨g4, 4, none⟩ = some (.bool (sg z0)) := HP.out.cell 4
     have e5 : wr.cell? ⟨g4, 5, none⟩ = some (.int .u64 (l0 z0 : Int)) := HP.out.cell 5
     have e6 : wr.cell? ⟨g4, 6, none⟩ = some (.int .u64 (l1 z0 : Int)) := HP.out.cell 6
     have e7 : wr.cell? ⟨g4, 7, none⟩ = some (.int .u64 (l2 z0 : Int)) := HP.out.cell 7
     have e8 : wr.cell? ⟨g4, 8, none⟩ = some (.int .u64 (l3 z0 : Int)) := HP.out.cell 8
     clear hr0 hok hcnt T4 V4
     by_cases hn0 : nm = 0
     · have d1 : ((nm : Int) == 0) = true := by rw [beq_iff_eq]; omega
       have kI := hide (t_int B b wr.drew wr.drew (T5.out.ext (ext_drew wr)) (Upd.refl _ _))
       go_upto_region 8 with fail
       go_region_law (go_simp; go_at_call 25; (with_reducible refine (kI.out).mono ?_); rintro e w6 ⟨v, rfl, hv, hT6, hU6⟩; have R6 := hide (show Blk w6 g2 27 (meC 0 0 0 0 0) from (hU6.2.2.2.2 g2 R2.out.lt (by omega)).trans R2.out); have L6 := hide (show Blk w6 g4 27 (meC tol c0 lo0 hi0 z0) from (hU6.2.2.2.2 g4 HP.out.lt (by omega)).trans HP.out); have V6 := hide ((V5.out.trans ((ext_drew wr).upd b)).trans hU6); have T6 := hide hT6; have Hv := hide hv; have q0 : w6.cell? ⟨g4, 0, none⟩ = some (.int .i64 tol) := L6.out.cell 0; have q1 : w6.cell? ⟨g4, 1, none⟩ = some (.int .i64 c0) := L6.out.cell 1; have q2 : w6.cell? ⟨g4, 2, none⟩ = some (.int .i64 lo0) := L6.out.cell 2; have q3 : w6.cell? ⟨g4, 3, none⟩ = some (.int .i64 hi0) := L6.out.cell 3; have q4 : w6.cell? ⟨g4, 4, none⟩ = some (.bool (sg z0)) := L6.out.cell 4; have q5 : w6.cell? ⟨g4, 5, none⟩ = some (.int .u64 (l0 z0 : Int)) := L6.out.cell 5; have q6 : w6.cell? ⟨g4, 6, none⟩ = some (.int .u64 (l1 z0 : Int)) := L6.out.cell 6; have q7 : w6.cell? ⟨g4, 7, none⟩ = some (.int .u64 (l2 z0 : Int)) := L6.out.cell 7; have q8 : w6.cell? ⟨g4, 8, none⟩ = some (.int .u64 (l3 z0 : Int)) := L6.out.cell 8; have s0 : w6.cell? ⟨g2, 0, none⟩ = some (.int .i64 0) := R6.out.cell 0; have s1 : w6.cell? ⟨g2, 1, none⟩ = some (.int .i64 0) := R6.out.cell 1; have s2 : w6.cell? ⟨g2, 2, none⟩ = some (.int .i64 0) := R6.out.cell 2; have s3 : w6.cell? ⟨g2, 3, none⟩ = some (.int .i64 0) := R6.out.cell 3; have s4 : w6.cell? ⟨g2, 4, none⟩ = some (.bool (sg 0)) := R6.out.cell 4; have s5 : w6.cell? ⟨g2, 5, none⟩ = some (.int .u64 (l0 0 : Int)) := R6.out.cell 5; have s6 : w6.cell? ⟨g2, 6, none⟩ = some (.int .u64 (l1 0 : Int)) := R6.out.cell 6; have s7 : w6.cell? ⟨g2, 7, none⟩ = some (.int .u64 (l2 0 : Int)) := R6.out.cell 7; have s8 : w6.cell? ⟨g2, 8, none⟩ = some (.int .u64 (l3 0 : Int)) := R6.out.cell 8; have f0 := R6.out.frozen 0; have f1 := R6.out.frozen 1; have f2 := R6.out.frozen 2; have f3 := R6.out.frozen 3; have f4 := R6.out.frozen 4; have f5 := R6.out.frozen 5; have f6 := R6.out.frozen 6; have f7 := R6.out.frozen 7; have f8 := R6.out.frozen 8; clear hv hT6 hU6)
       all_goals
         have U9 := upd9 w6 g2 tol c0 lo0 hi0 z0
         have P9 := blk9 (t' := tol) (c' := c0) (lo' := lo0) (hi' := hi0) (z' := z0) R6.out
         have T9 := tape_upd T6.out U9 hb2
         have V9 := upd_new V6.out U9 hgw
         obtain ⟨w9, hw9⟩ : ∃ w, (((((((((w6.setCell ⟨g2, 0, none⟩ (.int .i64 tol)).setCell ⟨g2, 1, none⟩ (.int .i64 c0)).setCell ⟨g2, 2, none⟩ (.int .i64 lo0)).setCell ⟨g2, 3, none⟩ (.int .i64 hi0)).setCell ⟨g2, 4, none⟩ (.bool (sg z0))).setCell ⟨g2, 5, none⟩ (.int .u64 (l0 z0 : Int))).setCell ⟨g2, 6, none⟩ (.int .u64 (l1 z0 : Int))).setCell ⟨g2, 7, none⟩ (.int .u64 (l2 z0 : Int))).setCell ⟨g2, 8, none⟩ (.int .u64 (l3 z0 : Int))) = w := ⟨_, rfl⟩
         rw [hw9] at P9 T9 V9 ⊢
         clear hw9
         go_wp2_with fail
         exact bodyPost_ret (res2 (p := 2) (u := 3) (ty := 27) rfl _ _ _ 27 (meC tol c0 lo0 hi0 z0) _ rfl P9 uMean rfl iMean) rfl (res_st (g2 := g2) T9 V9 itol ic il ih iz Hv.out)
     · have d1 : ((nm : Int) == 0) = false := by rw [beq_eq_false_iff_ne]; omega
       have O5 := hide (O4.out.upd HU.out hg43)
       obtain ⟨p, hp⟩ : ∃ p, nm = p + 1 := ⟨nm - 1, by omega⟩
       obtain ⟨A', cap', hA', _, _, hM⟩ := O5.out.at_
       rw [Hnm.out] at hA'
       cases hA'
       obtain ⟨bm, om, rfl, _, hcm⟩ := hM.2.2 (by rw [Hnm.out]; omega)
       have ct := hcm p (by rw [Hnm.out]; omega)
       have ix := fun w => idxT bm om nm capm p (by omega) w
       have ep : IntKind.i64.wrap ((nm : Int) - 1) = (p : Int) := by rw [IntKind.wrap_i64]; omega
       have ep2 : (nm : Int) - 1 = (p : Int) := by omega
       have ep3 : IntKind.i64.wrap (p : Int) = (p : Int) := by rw [IntKind.wrap_i64]; omega
       have iv := HI.out.get p
       obtain ⟨v, hvv⟩ : ∃ v, m.getD p 0 = v := ⟨_, rfl⟩
       rw [hvv] at ct iv
       have s0 : wr.cell? ⟨g2, 0, none⟩ = some (.int .i64 0) := R2.out.cell 0
       have s1 : wr.cell? ⟨g2, 1, none⟩ = some (.int .i64 0) := R2.out.cell 1
       have s2 : wr.cell? ⟨g2, 2, none⟩ = some (.int .i64 0) := R2.out.cell 2
       have s3 : wr.cell? ⟨g2, 3, none⟩ = some (.int .i64 0) := R2.out.cell 3
       have s4 : wr.cell? ⟨g2, 4, none⟩ = some (.bool (sg 0)) := R2.out.cell 4
       have s5 : wr.cell? ⟨g2, 5, none⟩ = some (.int .u64 (l0 0 : Int)) := R2.out.cell 5
       have s6 : wr.cell? ⟨g2, 6, none⟩ = some (.int .u64 (l1 0 : Int)) := R2.out.cell 6
       have s7 : wr.cell? ⟨g2, 7, none⟩ = some (.int .u64 (l2 0 : Int)) := R2.out.cell 7
       have s8 : wr.cell? ⟨g2, 8, none⟩ = some (.int .u64 (l3 0 : Int)) := R2.out.cell 8
       have f0 := R2.out.frozen 0
       have f1 := R2.out.frozen 1
       have f2 := R2.out.frozen 2
       have f3 := R2.out.frozen 3
       have f4 := R2.out.frozen 4
       have f5 := R2.out.frozen 5
       have f6 := R2.out.frozen 6
       have f7 := R2.out.frozen 7
       have f8 := R2.out.frozen 8
       have U8 := (upd9 wr g2 tol c0 lo0 hi0 z0).drew
       have ct9 : ((((((((((wr.setCell ⟨g2, 0, none⟩ (.int .i64 tol)).setCell ⟨g2, 1, none⟩ (.int .i64 c0)).setCell ⟨g2, 2, none⟩ (.int .i64 lo0)).setCell ⟨g2, 3, none⟩ (.int .i64 hi0)).setCell ⟨g2, 4, none⟩ (.bool (sg z0))).setCell ⟨g2, 5, none⟩ (.int .u64 (l0 z0 : Int))).setCell ⟨g2, 6, none⟩ (.int .u64 (l1 z0 : Int))).setCell ⟨g2, 7, none⟩ (.int .u64 (l2 z0 : Int))).setCell ⟨g2, 8, none⟩ (.int .u64 (l3 z0 : Int))).drew).cell? ⟨bm, om + p, none⟩ = some (.int .i64 v) := by
         obtain ⟨A9, cap9, hA9, _, _, hM9⟩ := (O5.out.upd U8 (by omega)).at_
         rw [Hnm.out] at hA9
         cases hA9
         obtain ⟨b9, o9, hB9, _, hc9⟩ := hM9.2.2 (by rw [Hnm.out]; omega)
         cases hB9
         have := hc9 p (by rw [Hnm.out]; omega)
         rw [hvv] at this
         exact this
       clear hcm hvv hM O5 hp hn0 U8
       go_upto_region 9 with fail
       go_region_law (fail)
       all_goals
         have U9 := (upd9 wr g2 tol c0 lo0 hi0 z0).drew
         have P9 := (blk9 (t' := tol) (c' := c0) (lo' := lo0) (hi' := hi0) (z' := z0) R2.out).ext (ext_drew _)
         have T9 := tape_upd T5.out U9 hb2
         have V9 := upd_new V5.out U9 hgw
         obtain ⟨w9, hw9⟩ : ∃ w, (((((((((wr.setCell ⟨g2, 0, none⟩ (.int .i64 tol)).setCell ⟨g2, 1, none⟩ (.int .i64 c0)).setCell ⟨g2, 2, none⟩ (.int .i64 lo0)).setCell ⟨g2, 3, none⟩ (.int .i64 hi0)).setCell ⟨g2, 4, none⟩ (.bool (sg z0))).setCell ⟨g2, 5, none⟩ (.int .u64 (l0 z0 : Int))).setCell ⟨g2, 6, none⟩ (.int .u64 (l1 z0 : Int))).setCell ⟨g2, 7, none⟩ (.int .u64 (l2 z0 : Int))).setCell ⟨g2, 8, none⟩ (.int .u64 (l3 z0 : Int))).drew = w := ⟨_, rfl⟩
         rw [hw9] at P9 T9 V9 ⊢
         clear hw9
         go_wp2_with fail
         exact bodyPost_ret (res2 (p := 2) (u := 3) (ty := 27) rfl _ _ _ 27 (meC tol c0 lo0 hi0 z0) _ rfl P9 uMean rfl iMean) rfl (res_st (g2 := g2) T9 V9 itol ic il ih iz iv)
end
section
open Go Go.RowKit Go.Sort
theorem both_startE (eps : Int) : ∃ (q : Int) (er : Nat), (∀ w, Calls Try.prog 9 #[.int .i64 eps] w (Ret (.tuple #[.agg (meC q 0 0 0 0), .int .i64 (er : Int)]) w)) ∧ (∀ w, Calls Try.prog 10 #[.int .i64 eps] w (Ret (.tuple #[.agg (meC q 0 0 0 0), .int .i64 (er : Int)]) w)) := by
 cases h : tolB eps with
 | false => exact ⟨0, 9, fun w => by have := p_startE_no eps w (hide fun w => pm_tol eps w false h); rw [z9m_is] at this; exact this, fun w => by have := r_startE_no eps w (hide fun w => r_tolI eps w false h); rw [z9m_is] at this; exact this⟩
 | true => exact ⟨eps, 0, fun w => p_startE eps w (hide fun w => pm_tol eps w true h), fun w => r_startE eps w (hide fun w => r_tolI eps w true h)⟩
theorem i64_we (x : Int) : I64 (IntKind.i64.wrap x) := by obtain ⟨p, -, hp, ip⟩ := wr64 x; rw [hp]; exact ip
theorem fin_blke {b g16 g : Nat} {w6 w9 wf : World} {R : Array Value} (U : Upd b w6 w9) (V : Upd g16 w9 wf) (h1 : g ≠ b) (h2 : g ≠ g16) (P : Blk w6 g 27 R) : Hid (Blk wf g 27 R) := hide ((V.2.2.2.2 g (Nat.lt_of_lt_of_le P.lt U.2.2.2.1) h2).trans ((U.2.2.2.2 g P.lt h1).trans P))
theorem isW_not {z : Int} (h : F256 z) : ∃ z', IsW (!sg z) (l0 z) (l1 z) (l2 z) (l3 z) z' := by
 obtain ⟨h1, h2, h3, h4, h5⟩ := (isC_of h).1
 exact ⟨_, h1, h2, h3, h4, rfl⟩
theorem wrap_20 {u : Int} (h1 : 0 ≤ u) (h2 : u < 40) : IntKind.i64.wrap (u - 20) = u - 20 := by rw [IntKind.wrap_i64]; omega
theorem set_0 (t c lo hi z x : Int) : (meC t c lo hi z).setIfInBounds 0 (.int .i64 x) = meC x c lo hi z := by kernel_rfl
theorem set_1 (t c lo hi z x : Int) : (meC t c lo hi z).setIfInBounds 1 (.int .i64 x) = meC t x lo hi z := by kernel_rfl
theorem set_2 (t c lo hi z x : Int) : (meC t c lo hi z).setIfInBounds 2 (.int .i64 x) = meC t c x hi z := by kernel_rfl
theorem set_3 (t c lo hi z x : Int) : (meC t c lo hi z).setIfInBounds 3 (.int .i64 x) = meC t c lo x z := by kernel_rfl
theorem set_4 (t c lo hi z : Int) (o : Bool) : (meC t c lo hi z).setIfInBounds 4 (.bool o) = meR t c lo hi o (l0 z) (l1 z) (l2 z) (l3 z) := by kernel_rfl
theorem set_48 (t c lo hi z z' : Int) : ((((((meC t c lo hi z).setIfInBounds 4 (.bool (sg z'))).setIfInBounds 5 (.int .u64 (l0 z' : Int))).setIfInBounds 6 (.int .u64 (l1 z' : Int))).setIfInBounds 7 (.int .u64 (l2 z' : Int))).setIfInBounds 8 (.int .u64 (l3 z' : Int))) = meC t c lo hi z' := by kernel_rfl
set_option maxRecDepth 100000 in
set_option maxHeartbeats 25600000 in
theorem law_eforms (t c lo hi : Int) (s : Bool) (a b d e : Nat) (z v eps : Int) (y : Option Addr) (len cap : Nat) (W : World) (ht : I64 t) (hc : I64 c) (hlo : I64 lo) (hhi : I64 hi) (hw : IsW s a b d e z) (hv : I64 v) (hL : IsList W y len cap) :
   Calls Try.prog 3 #[.agg (meR t c lo hi s a b d e), .int .i64 v, .int .i64 eps, .slice y len cap] W (Ret (.bool true) W) := by
 have EW := ext_alloc W (.cells (meR t c lo hi s a b d e) 27)
 have P4 := Blk.new W 27 (meR t c lo hi s a b d e)
 have KN := t_new (W.alloc (.cells (meR t c lo hi s a b d e) 27)) y len cap (hL.ext EW)
 have KK := hide (fun w => l_known16 w)
 obtain ⟨sq, er, kp, kr⟩ := both_startE eps
 have kp : Hid (∀ w, Calls Try.prog 9 #[.int .i64 eps] w (Ret (.tuple #[.agg #[.int .i64 sq, .int .i64 0, .int .i64 0, .int .i64 0, .bool (sg 0), .int .u64 (l0 0 : Int), .int .u64 (l1 0 : Int), .int .u64 (l2 0 : Int), .int .u64 (l3 0 : Int)], .int .i64 (er : Int)]) w)) := hide kp
 have kr : Hid (∀ w, Calls Try.prog 10 #[.int .i64 eps] w (Ret (.tuple #[.agg #[.int .i64 sq, .int .i64 0, .int .i64 0, .int .i64 0, .bool (sg 0), .int .u64 (l0 0 : Int), .int .u64 (l1 0 : Int), .int .u64 (l2 0 : Int), .int .u64 (l3 0 : Int)], .int .i64 (er : Int)]) w)) := hide kr
 have KA : ∀ w, Calls Try.prog 15 #[.agg (meR t c lo hi s a b d e), .int .i64 v] w (Ret (.bool true) w) := fun w => l_alike16 v w ht hc hlo hhi hw hv
 have KB : Hid (∀ (t c lo hi : Int) (s : Bool) (a b d e : Nat) (z v : Int), I64 t → I64 c → I64 lo → I64 hi → IsW s a b d e z → I64 v → ∀ w, Calls Try.prog 15 #[.agg (meR t c lo hi s a b d e), .int .i64 v] w (Ret (.bool true) w)) := hide fun t c lo hi s a b d e z v h1 h2 h3 h4 h5 h6 w => l_alike16 v w h1 h2 h3 h4 h5 h6
 have sM := (meX_raw t c lo hi s a b d e).s
 obtain ⟨RM, hRM⟩ : ∃ X, (meR t c lo hi s a b d e) = X := ⟨_, rfl⟩
 rw [hRM] at EW P4 KN KA sM ⊢
 have KA := hide KA
 clear hRM hw
 obtain ⟨g4, hg4⟩ : ∃ q, W.heap.size = q := ⟨_, rfl⟩
 obtain ⟨w0, hw0⟩ : ∃ w, W.alloc (.cells RM 27) = w := ⟨_, rfl⟩
 rw [hw0, hg4] at P4
 rw [hw0] at EW KN
 have h4b := P4.lt
 obtain ⟨b, hb⟩ : ∃ q, w0.heap.size = q := ⟨_, rfl⟩
 rw [hb] at h4b
 have P4 := hide P4
 have EW : Hid (Ext W w0) := hide EW
 have KN := hide KN
 have Hw := hide hw0
 have Hg := hide hg4
 have Hb := hide hb
 clear hw0 hg4 hL hb ht hc hlo hhi
 go_enter Try.func3, Try.ntmps3
 go_upto_region 1 with fail
 rw [Hw.out, Hg.out]
 clear Hw
 go_upto_region 3 with (first
   | (go_at_call 7; (with_reducible refine (KN.out).mono ?_); rintro e w1 ⟨rfl, hT, hE⟩; rw [Hb.out] at hT ⊢; have T1 := hide hT; have E1 := hide hE; have ks : Hid (Calls Try.prog 8 #[.pointer (some ⟨b, 0, none⟩)] w1 (fun e w' => ∃ t c lo hi z v : Int, e = .returned (.tuple #[.agg #[.int .i64 t, .int .i64 c, .int .i64 lo, .int .i64 hi, .bool (sg z), .int .u64 (l0 z : Int), .int .u64 (l1 z : Int), .int .u64 (l2 z : Int), .int .u64 (l3 z : Int)], .int .i64 v]) ∧ I64 t ∧ I64 c ∧ I64 lo ∧ I64 hi ∧ z.natAbs < 19807040628566084398385987584 ∧ I64 v ∧ TapeOk b w' b ∧ Upd b w1 w')) := hide (l_state16 b b w1 hT); clear hT hE)
   | (go_at_call 8; (with_reducible refine (ks.out).mono ?_); rintro e w2 ⟨st, sc, sl, sh, sz, sv, rfl, ist, isc, isl, ish, isz, isv, hT2, hU2⟩))
 have X3 := ext_alloc w2 (.cells #[.int .i64 st, .int .i64 sc, .int .i64 sl, .int .i64 sh, .bool (sg sz), .int .u64 (l0 sz : Int), .int .u64 (l1 sz : Int), .int .u64 (l2 sz : Int), .int .u64 (l3 sz : Int)] 27)
 have P10 := Blk.new w2 27 #[.int .i64 st, .int .i64 sc, .int .i64 sl, .int .i64 sh, .bool (sg sz), .int .u64 (l0 sz : Int), .int .u64 (l1 sz : Int), .int .u64 (l2 sz : Int), .int .u64 (l3 sz : Int)]
 have T3 := hT2.ext X3
 have Y3 : Ext w0 (w2.alloc (.cells #[.int .i64 st, .int .i64 sc, .int .i64 sl, .int .i64 sh, .bool (sg sz), .int .u64 (l0 sz : Int), .int .u64 (l1 sz : Int), .int .u64 (l2 sz : Int), .int .u64 (l3 sz : Int)] 27)) := Ext.trans (Upd.ext hU2 E1.out (Nat.le_of_eq Hb.out)) X3
 obtain ⟨g10, hg10⟩ : ∃ q, w2.heap.size = q := ⟨_, rfl⟩
 have hb10 : b < g10 := by rw [← hg10]; exact hT2.2.1
 obtain ⟨w3, hw3⟩ : ∃ w, w2.alloc (.cells #[.int .i64 st, .int .i64 sc, .int .i64 sl, .int .i64 sh, .bool (sg sz), .int .u64 (l0 sz : Int), .int .u64 (l1 sz : Int), .int .u64 (l2 sz : Int), .int .u64 (l3 sz : Int)] 27) = w := ⟨_, rfl⟩
 rw [hw3, hg10] at P10
 rw [hw3] at T3 Y3
 rw [hw3, hg10]
 have P10 : Hid (Blk w3 g10 27 (meC st sc sl sh sz)) := hide P10
 have T3 := hide T3
 have Y3 := hide Y3
 have fsz : F256 sz := by unfold F256; omega
 clear hw3 hg10 X3 hT2 hU2 T1 E1 ks KN
 go_upto_region 4 with (go_at_call 9; (with_reducible refine (kp.out _).mono ?_); rintro e wv ⟨rfl, hE⟩)
 have E12 := hE.trans (ext_alloc wv (.cells #[.int .i64 sq, .int .i64 0, .int .i64 0, .int .i64 0, .bool (sg 0), .int .u64 (l0 0 : Int), .int .u64 (l1 0 : Int), .int .u64 (l2 0 : Int), .int .u64 (l3 0 : Int)] 27))
 have P12 := Blk.new wv 27 #[.int .i64 sq, .int .i64 0, .int .i64 0, .int .i64 0, .bool (sg 0), .int .u64 (l0 0 : Int), .int .u64 (l1 0 : Int), .int .u64 (l2 0 : Int), .int .u64 (l3 0 : Int)]
 obtain ⟨g12, hg⟩ : ∃ q, wv.heap.size = q := ⟨_, rfl⟩
 have hb12 : b < g12 := by rw [← hg]; exact Nat.lt_of_lt_of_le T3.out.2.1 (hE.size)
 obtain ⟨w4, hw⟩ : ∃ w, wv.alloc (.cells #[.int .i64 sq, .int .i64 0, .int .i64 0, .int .i64 0, .bool (sg 0), .int .u64 (l0 0 : Int), .int .u64 (l1 0 : Int), .int .u64 (l2 0 : Int), .int .u64 (l3 0 : Int)] 27) = w := ⟨_, rfl⟩
 rw [hw, hg] at P12
 rw [hw] at E12
 rw [hw, hg]
 have P12 : Hid (Blk w4 g12 27 (meC sq 0 0 0 0)) := hide P12
 have E12 : Hid (Ext w3 w4) := hide E12
 clear hw hg hE kp
 go_upto_region 5 with (go_at_call 10; (with_reducible refine (kr.out _).mono ?_); rintro e wv ⟨rfl, hE⟩)
 have E14 := hE.trans (ext_alloc wv (.cells #[.int .i64 sq, .int .i64 0, .int .i64 0, .int .i64 0, .bool (sg 0), .int .u64 (l0 0 : Int), .int .u64 (l1 0 : Int), .int .u64 (l2 0 : Int), .int .u64 (l3 0 : Int)] 27))
 have P14 := Blk.new wv 27 #[.int .i64 sq, .int .i64 0, .int .i64 0, .int .i64 0, .bool (sg 0), .int .u64 (l0 0 : Int), .int .u64 (l1 0 : Int), .int .u64 (l2 0 : Int), .int .u64 (l3 0 : Int)]
 obtain ⟨g14, hg⟩ : ∃ q, wv.heap.size = q := ⟨_, rfl⟩
 have hb14 : b < g14 := by rw [← hg]; exact Nat.lt_of_lt_of_le T3.out.2.1 ((Nat.le_trans E12.out.size hE.size))
 obtain ⟨w5, hw⟩ : ∃ w, wv.alloc (.cells #[.int .i64 sq, .int .i64 0, .int .i64 0, .int .i64 0, .bool (sg 0), .int .u64 (l0 0 : Int), .int .u64 (l1 0 : Int), .int .u64 (l2 0 : Int), .int .u64 (l3 0 : Int)] 27) = w := ⟨_, rfl⟩
 rw [hw, hg] at P14
 rw [hw] at E14
 rw [hw, hg]
 have P14 : Hid (Blk w5 g14 27 (meC sq 0 0 0 0)) := hide P14
 have E14 : Hid (Ext w4 w5) := hide E14
 clear hw hg hE kr
 have R10 : Hid (Blk w5 g10 27 (meC st sc sl sh sz)) := hide (P10.out.ext (E12.out.trans E14.out))
 have c0 : w5.cell? ⟨g10, 0, none⟩ = some (.int .i64 st) := R10.out.cell 0
 have c1 : w5.cell? ⟨g10, 1, none⟩ = some (.int .i64 sc) := R10.out.cell 1
 have c2 : w5.cell? ⟨g10, 2, none⟩ = some (.int .i64 sl) := R10.out.cell 2
 have c3 : w5.cell? ⟨g10, 3, none⟩ = some (.int .i64 sh) := R10.out.cell 3
 have c4 : w5.cell? ⟨g10, 4, none⟩ = some (.bool (sg sz)) := R10.out.cell 4
 have c5 : w5.cell? ⟨g10, 5, none⟩ = some (.int .u64 (l0 sz : Int)) := R10.out.cell 5
 have c6 : w5.cell? ⟨g10, 6, none⟩ = some (.int .u64 (l1 sz : Int)) := R10.out.cell 6
 have c7 : w5.cell? ⟨g10, 7, none⟩ = some (.int .u64 (l2 sz : Int)) := R10.out.cell 7
 have c8 : w5.cell? ⟨g10, 8, none⟩ = some (.int .u64 (l3 sz : Int)) := R10.out.cell 8
 go_upto_region 6 with fail
 have E16 := ext_alloc w5 (.cells #[.int .i64 st, .int .i64 sc, .int .i64 sl, .int .i64 sh, .bool (sg sz), .int .u64 (l0 sz : Int), .int .u64 (l1 sz : Int), .int .u64 (l2 sz : Int), .int .u64 (l3 sz : Int)] 27)
 have P16 := Blk.new w5 27 #[.int .i64 st, .int .i64 sc, .int .i64 sl, .int .i64 sh, .bool (sg sz), .int .u64 (l0 sz : Int), .int .u64 (l1 sz : Int), .int .u64 (l2 sz : Int), .int .u64 (l3 sz : Int)]
 obtain ⟨g16, hg⟩ : ∃ q, w5.heap.size = q := ⟨_, rfl⟩
 have hb16 : b < g16 := by rw [← hg]; exact Nat.lt_of_lt_of_le T3.out.2.1 (E12.out.trans E14.out).size
 obtain ⟨w6, hw⟩ : ∃ w, w5.alloc (.cells #[.int .i64 st, .int .i64 sc, .int .i64 sl, .int .i64 sh, .bool (sg sz), .int .u64 (l0 sz : Int), .int .u64 (l1 sz : Int), .int .u64 (l2 sz : Int), .int .u64 (l3 sz : Int)] 27) = w := ⟨_, rfl⟩
 rw [hw, hg] at P16
 rw [hw] at E16
 rw [hw, hg]
 have P16 : Hid (Blk w6 g16 27 (meC st sc sl sh sz)) := hide P16
 have T6 := hide (T3.out.ext ((E12.out.trans E14.out).trans E16))
 have Q4 : Hid (Blk w6 g4 27 RM) := hide (P4.out.ext (Y3.out.trans ((E12.out.trans E14.out).trans E16)))
 have Q10 : Hid (Blk w6 g10 27 (meC st sc sl sh sz)) := hide (R10.out.ext E16)
 have Q12 : Hid (Blk w6 g12 27 (meC sq 0 0 0 0)) := hide (P12.out.ext (E14.out.trans E16))
 have Q14 : Hid (Blk w6 g14 27 (meC sq 0 0 0 0)) := hide (P14.out.ext E16)
 have Y6 := hide ((EW.out.trans Y3.out).trans ((E12.out.trans E14.out).trans E16))
 have n16 : g16 ≠ g4 ∧ g16 ≠ g10 ∧ g16 ≠ g12 ∧ g16 ≠ g14 := by
   have h1 := (P4.out.ext (Y3.out.trans (E12.out.trans E14.out))).lt
   have h2 := R10.out.lt
   have h3 := (P12.out.ext E14.out).lt
   have h4 := P14.out.lt
   rw [hg] at h1 h2 h3 h4
   exact ⟨by omega, by omega, by omega, by omega⟩
 clear c0 c1 c2 c3 c4 c5 c6 c7 c8 hw hg E16 E12 E14 T3 P4 P10 P12 P14 R10 Y3 EW
 have i3 : I64 3 := ⟨by omega, by omega⟩
 have i4 : I64 4 := ⟨by omega, by omega⟩
 have i6 : I64 6 := ⟨by omega, by omega⟩
 have i40 : I64 40 := ⟨by omega, by omega⟩
 have i60 : I64 60 := ⟨by omega, by omega⟩
 go_upto_region 8 with (go_at_call 11; (with_reducible refine (t_next b b 6 _ i6 T6.out).mono ?_); rintro e w8 ⟨x, rfl, hx, hT, hU⟩; have T8 := hide hT; have U8 := hide hU; clear hT hU)
 have P16 : Hid (Blk w8 g16 27 (meC st sc sl sh sz)) := hide ((U8.out.2.2.2.2 g16 P16.out.lt (by omega)).trans P16.out)
 have hx6 : x = 0 ∨ x = 1 ∨ x = 2 ∨ x = 3 ∨ x = 4 ∨ x = 5 := by have h1 := hx.1; have h2 := hx.2.1 (by omega); omega
 clear hx
 rcases hx6 with rfl | rfl | rfl | rfl | rfl | rfl
 · have kN := hide (t_next b b 4 w8 i4 T8.out)
   go_upto_region 18 with (go_at_call 11; (with_reducible refine (kN.out).mono ?_); rintro e w9 ⟨u, rfl, hu, hT, hU⟩; have U9 := hide hU; have P9 : Hid (Blk w9 g16 27 (meC st sc sl sh sz)) := hide ((hU.2.2.2.2 g16 P16.out.lt (by omega)).trans P16.out); have s1 : w9.cell? ⟨g16, 1, none⟩ = some (.int .i64 sc) := P9.out.cell 1; have f1 := P9.out.frozen 1; clear hT hU)
   have V := hide ((Upd.refl g16 w9).set 1 (.int .i64 (wrap64 (u - 1))))
   have A : Hid (Blk (w9.setCell ⟨g16, 1, none⟩ (.int .i64 (wrap64 (u - 1)))) g16 27 (meC st (wrap64 (u - 1)) sl sh sz)) := hide (by have k := P9.out.set_ 1 (.int .i64 (wrap64 (u - 1))); rw [set_1] at k; exact k)
   obtain ⟨wf, hwf⟩ : ∃ w, (w9.setCell ⟨g16, 1, none⟩ (.int .i64 (wrap64 (u - 1)))) = w := ⟨_, rfl⟩
   rw [hwf] at V A
   rw [hwf]
   have UT : Hid (Upd b w6 w9) := hide (U8.out.trans U9.out)
   obtain ⟨A4, A10, A12, A14, YF⟩ : Hid (Blk wf g4 27 RM) ∧ Hid (Blk wf g10 27 (meC st sc sl sh sz)) ∧ Hid (Blk wf g12 27 (meC sq 0 0 0 0)) ∧ Hid (Blk wf g14 27 (meC sq 0 0 0 0)) ∧ Hid (Ext W wf) := ⟨fin_blke UT.out V.out (by omega) (fun h => n16.1 h.symm) Q4.out, fin_blke UT.out V.out (by omega) (fun h => n16.2.1 h.symm) Q10.out, fin_blke UT.out V.out (by omega) (fun h => n16.2.2.1 h.symm) Q12.out, fin_blke UT.out V.out (by omega) (fun h => n16.2.2.2 h.symm) Q14.out, Upd.ext V.out (Upd.ext UT.out Y6.out (by rw [Hg.out]; omega)) (by rw [Hg.out]; omega)⟩
   obtain ⟨RN, sN, A16, KC⟩ : ∃ R : Array Value, R.size = 9 ∧ Hid (Blk wf g16 27 R) ∧ Hid (∀ w, Calls Try.prog 15 #[.agg R, .int .i64 sv] w (Ret (.bool true) w)) := ⟨(meC st (wrap64 (u - 1)) sl sh sz), (meX_raw _ _ _ _ _ _ _ _ _).s, A, hide (KB.out st (wrap64 (u - 1)) sl sh _ _ _ _ _ sz sv ist (i64_wrap _) isl ish (isC_of fsz).1 isv)⟩
   clear hwf V A UT kN hu s1 f1 P9 P16 U9
   have EM : Hid (∀ w, (binOp .eql 27 (.agg (meC sq 0 0 0 0)) (.agg (meC sq 0 0 0 0))).run Try.prog w = .ok (.bool true) w) := hide fun w => eqMR _ _ _ _ _ _ _ _ _ w
   have KB2 : Hid (∀ v, I64 v → ∀ w, Calls Try.prog 15 #[.agg (meC st sc sl sh sz), .int .i64 v] w (Ret (.bool true) w)) := hide fun v h w => KB.out st sc sl sh _ _ _ _ _ sz v ist isc isl ish (isC_of fsz).1 h w
   obtain ⟨RS, hRS⟩ : ∃ X, (meC st sc sl sh sz) = X := ⟨_, rfl⟩
   obtain ⟨RQ, hRQ⟩ : ∃ X, (meC sq 0 0 0 0) = X := ⟨_, rfl⟩
   have sS : RS.size = 9 := by rw [← hRS]; exact (meX_of _ _ _ _ _).s
   have sQ : RQ.size = 9 := by rw [← hRQ]; exact (meX_of _ _ _ _ _).s
   rw [hRS] at A10 KB2
   rw [hRQ] at A12 A14 EM
   clear hRS hRQ
   have kA2 : Hid (∀ w, Calls Try.prog 15 #[.agg RS, .int .i64 sv] w (Ret (.bool true) w)) := hide (KB2.out sv isv)
   have kA3 : Hid (∀ w, Calls Try.prog 15 #[.agg RS, .int .i64 v] w (Ret (.bool true) w)) := hide (KB2.out v hv)
   have em := EM.out
   have b2 : ((er : Int) == (er : Int)) = true := by simp
   clear Q4 Q10 Q12 Q14 Y6 KB KB2 U8 T8 T6 n16 isc
   refine wp_region_reads ?_
   repeat (first | go_big_quiet_step (first | with_reducible exact quiet_ret (KK.out _) | with_reducible exact quiet_ret (KA.out _) | with_reducible exact quiet_ret (kA2.out _) | with_reducible exact quiet_ret (kA3.out _) | with_reducible exact quiet_ret (KC.out _)) | (refine wq_load (by kernel_rfl) rfl rfl (fun w hw => by obtain ⟨⟨d, os⟩, rfl⟩ := hw; exact ld_all (A12.out.ext (ext_regrown wf d os)) uMean rfl iMean sQ) ?_) | (refine wq_load (by kernel_rfl) rfl rfl (fun w hw => by obtain ⟨⟨d, os⟩, rfl⟩ := hw; exact ld_all (A14.out.ext (ext_regrown wf d os)) uMean rfl iMean sQ) ?_) | (refine wq_load (by kernel_rfl) rfl rfl (fun w hw => by obtain ⟨⟨d, os⟩, rfl⟩ := hw; exact ld_all (A4.out.ext (ext_regrown wf d os)) uMean rfl iMean sM) ?_) | (refine wq_load (by kernel_rfl) rfl rfl (fun w hw => by obtain ⟨⟨d, os⟩, rfl⟩ := hw; exact ld_all (A10.out.ext (ext_regrown wf d os)) uMean rfl iMean sS) ?_) | (refine wq_load (by kernel_rfl) rfl rfl (fun w hw => by obtain ⟨⟨d, os⟩, rfl⟩ := hw; exact ld_all (A16.out.ext (ext_regrown wf d os)) uMean rfl iMean sN) ?_) | quiet_step (first | with_reducible exact quiet_ret (KK.out _) | with_reducible exact quiet_ret (KA.out _) | with_reducible exact quiet_ret (kA2.out _) | with_reducible exact quiet_ret (kA3.out _) | with_reducible exact quiet_ret (KC.out _)))
   refine wpQuiet_nil ?_
   intro _ hw'
   obtain ⟨⟨dq, osq⟩, hw''⟩ := hw'
   subst hw''
   have E9 := hide (YF.out.trans (ext_regrown wf dq osq))
   go_wp2_with fail
   go_ret
   exact ⟨rfl, E9.out⟩
 · have e0 : w8.cell? ⟨g16, 0, none⟩ = some (.int .i64 st) := P16.out.cell 0
   go_upto_region 11 with fail
   have kN := hide (t_next b b 3 w8.drew i3 (T8.out.ext (ext_drew w8)))
   go_region_law (go_simp; (go_at_call 11; (with_reducible refine (kN.out).mono ?_); rintro e w9 ⟨u, rfl, hu, hT, hU⟩; have U9 := hide hU; have P9 : Hid (Blk w9 g16 27 (meC st sc sl sh sz)) := hide ((hU.2.2.2.2 g16 P16.out.lt (by omega)).trans P16.out); have s0 : w9.cell? ⟨g16, 0, none⟩ = some (.int .i64 st) := P9.out.cell 0; have f0 := P9.out.frozen 0; clear hT hU))
   all_goals
     go_upto_region 18 with fail
     have V := hide ((Upd.refl g16 w9).set 0 (.int .i64 (IntKind.i64.wrap (st - u))))
     have A : Hid (Blk (w9.setCell ⟨g16, 0, none⟩ (.int .i64 (IntKind.i64.wrap (st - u)))) g16 27 (meC (IntKind.i64.wrap (st - u)) sc sl sh sz)) := hide (by have k := P9.out.set_ 0 (.int .i64 (IntKind.i64.wrap (st - u))); rw [set_0] at k; exact k)
     obtain ⟨wf, hwf⟩ : ∃ w, (w9.setCell ⟨g16, 0, none⟩ (.int .i64 (IntKind.i64.wrap (st - u)))) = w := ⟨_, rfl⟩
     rw [hwf] at V A
     rw [hwf]
     have UT : Hid (Upd b w6 w9) := hide (U8.out.trans (((ext_drew w8).upd b).trans U9.out))
     obtain ⟨A4, A10, A12, A14, YF⟩ : Hid (Blk wf g4 27 RM) ∧ Hid (Blk wf g10 27 (meC st sc sl sh sz)) ∧ Hid (Blk wf g12 27 (meC sq 0 0 0 0)) ∧ Hid (Blk wf g14 27 (meC sq 0 0 0 0)) ∧ Hid (Ext W wf) := ⟨fin_blke UT.out V.out (by omega) (fun h => n16.1 h.symm) Q4.out, fin_blke UT.out V.out (by omega) (fun h => n16.2.1 h.symm) Q10.out, fin_blke UT.out V.out (by omega) (fun h => n16.2.2.1 h.symm) Q12.out, fin_blke UT.out V.out (by omega) (fun h => n16.2.2.2 h.symm) Q14.out, Upd.ext V.out (Upd.ext UT.out Y6.out (by rw [Hg.out]; omega)) (by rw [Hg.out]; omega)⟩
     obtain ⟨RN, sN, A16, KC⟩ : ∃ R : Array Value, R.size = 9 ∧ Hid (Blk wf g16 27 R) ∧ Hid (∀ w, Calls Try.prog 15 #[.agg R, .int .i64 sv] w (Ret (.bool true) w)) := ⟨(meC (IntKind.i64.wrap (st - u)) sc sl sh sz), (meX_raw _ _ _ _ _ _ _ _ _).s, A, hide (KB.out (IntKind.i64.wrap (st - u)) sc sl sh _ _ _ _ _ sz sv (i64_we _) isc isl ish (isC_of fsz).1 isv)⟩
     clear hwf V A UT kN hu s0 f0 e0 P9 P16 U9
     have EM : Hid (∀ w, (binOp .eql 27 (.agg (meC sq 0 0 0 0)) (.agg (meC sq 0 0 0 0))).run Try.prog w = .ok (.bool true) w) := hide fun w => eqMR _ _ _ _ _ _ _ _ _ w
     have KB2 : Hid (∀ v, I64 v → ∀ w, Calls Try.prog 15 #[.agg (meC st sc sl sh sz), .int .i64 v] w (Ret (.bool true) w)) := hide fun v h w => KB.out st sc sl sh _ _ _ _ _ sz v ist isc isl ish (isC_of fsz).1 h w
     obtain ⟨RS, hRS⟩ : ∃ X, (meC st sc sl sh sz) = X := ⟨_, rfl⟩
     obtain ⟨RQ, hRQ⟩ : ∃ X, (meC sq 0 0 0 0) = X := ⟨_, rfl⟩
     have sS : RS.size = 9 := by rw [← hRS]; exact (meX_of _ _ _ _ _).s
     have sQ : RQ.size = 9 := by rw [← hRQ]; exact (meX_of _ _ _ _ _).s
     rw [hRS] at A10 KB2
     rw [hRQ] at A12 A14 EM
     clear hRS hRQ
     have kA2 : Hid (∀ w, Calls Try.prog 15 #[.agg RS, .int .i64 sv] w (Ret (.bool true) w)) := hide (KB2.out sv isv)
     have kA3 : Hid (∀ w, Calls Try.prog 15 #[.agg RS, .int .i64 v] w (Ret (.bool true) w)) := hide (KB2.out v hv)
     have em := EM.out
     have b2 : ((er : Int) == (er : Int)) = true := by simp
     clear Q4 Q10 Q12 Q14 Y6 KB KB2 U8 T8 T6 n16 isc
     refine wp_region_reads ?_
     repeat (first | go_big_quiet_step (first | with_reducible exact quiet_ret (KK.out _) | with_reducible exact quiet_ret (KA.out _) | with_reducible exact quiet_ret (kA2.out _) | with_reducible exact quiet_ret (kA3.out _) | with_reducible exact quiet_ret (KC.out _)) | (refine wq_load (by kernel_rfl) rfl rfl (fun w hw => by obtain ⟨⟨d, os⟩, rfl⟩ := hw; exact ld_all (A12.out.ext (ext_regrown wf d os)) uMean rfl iMean sQ) ?_) | (refine wq_load (by kernel_rfl) rfl rfl (fun w hw => by obtain ⟨⟨d, os⟩, rfl⟩ := hw; exact ld_all (A14.out.ext (ext_regrown wf d os)) uMean rfl iMean sQ) ?_) | (refine wq_load (by kernel_rfl) rfl rfl (fun w hw => by obtain ⟨⟨d, os⟩, rfl⟩ := hw; exact ld_all (A4.out.ext (ext_regrown wf d os)) uMean rfl iMean sM) ?_) | (refine wq_load (by kernel_rfl) rfl rfl (fun w hw => by obtain ⟨⟨d, os⟩, rfl⟩ := hw; exact ld_all (A10.out.ext (ext_regrown wf d os)) uMean rfl iMean sS) ?_) | (refine wq_load (by kernel_rfl) rfl rfl (fun w hw => by obtain ⟨⟨d, os⟩, rfl⟩ := hw; exact ld_all (A16.out.ext (ext_regrown wf d os)) uMean rfl iMean sN) ?_) | quiet_step (first | with_reducible exact quiet_ret (KK.out _) | with_reducible exact quiet_ret (KA.out _) | with_reducible exact quiet_ret (kA2.out _) | with_reducible exact quiet_ret (kA3.out _) | with_reducible exact quiet_ret (KC.out _)))
     refine wpQuiet_nil ?_
     intro _ hw'
     obtain ⟨⟨dq, osq⟩, hw''⟩ := hw'
     subst hw''
     have E9 := hide (YF.out.trans (ext_regrown wf dq osq))
     go_wp2_with fail
     go_ret
     exact ⟨rfl, E9.out⟩
 · have e2 : w8.cell? ⟨g16, 2, none⟩ = some (.int .i64 sl) := P16.out.cell 2; have f2 := P16.out.frozen 2
   go_upto_region 18 with fail
   have V := hide ((Upd.refl g16 w8).set 2 (.int .i64 (wrap64 (sl + 1))))
   have A : Hid (Blk (w8.setCell ⟨g16, 2, none⟩ (.int .i64 (wrap64 (sl + 1)))) g16 27 (meC st sc (wrap64 (sl + 1)) sh sz)) := hide (by have k := P16.out.set_ 2 (.int .i64 (wrap64 (sl + 1))); rw [set_2] at k; exact k)
   obtain ⟨wf, hwf⟩ : ∃ w, (w8.setCell ⟨g16, 2, none⟩ (.int .i64 (wrap64 (sl + 1)))) = w := ⟨_, rfl⟩
   rw [hwf] at V A
   rw [hwf]
   have UT : Hid (Upd b w6 w8) := hide U8.out
   obtain ⟨A4, A10, A12, A14, YF⟩ : Hid (Blk wf g4 27 RM) ∧ Hid (Blk wf g10 27 (meC st sc sl sh sz)) ∧ Hid (Blk wf g12 27 (meC sq 0 0 0 0)) ∧ Hid (Blk wf g14 27 (meC sq 0 0 0 0)) ∧ Hid (Ext W wf) := ⟨fin_blke UT.out V.out (by omega) (fun h => n16.1 h.symm) Q4.out, fin_blke UT.out V.out (by omega) (fun h => n16.2.1 h.symm) Q10.out, fin_blke UT.out V.out (by omega) (fun h => n16.2.2.1 h.symm) Q12.out, fin_blke UT.out V.out (by omega) (fun h => n16.2.2.2 h.symm) Q14.out, Upd.ext V.out (Upd.ext UT.out Y6.out (by rw [Hg.out]; omega)) (by rw [Hg.out]; omega)⟩
   obtain ⟨RN, sN, A16, KC⟩ : ∃ R : Array Value, R.size = 9 ∧ Hid (Blk wf g16 27 R) ∧ Hid (∀ w, Calls Try.prog 15 #[.agg R, .int .i64 sv] w (Ret (.bool true) w)) := ⟨(meC st sc (wrap64 (sl + 1)) sh sz), (meX_raw _ _ _ _ _ _ _ _ _).s, A, hide (KB.out st sc (wrap64 (sl + 1)) sh _ _ _ _ _ sz sv ist isc (i64_wrap _) ish (isC_of fsz).1 isv)⟩
   clear hwf V A UT e2 f2 P16
   have EM : Hid (∀ w, (binOp .eql 27 (.agg (meC sq 0 0 0 0)) (.agg (meC sq 0 0 0 0))).run Try.prog w = .ok (.bool true) w) := hide fun w => eqMR _ _ _ _ _ _ _ _ _ w
   have KB2 : Hid (∀ v, I64 v → ∀ w, Calls Try.prog 15 #[.agg (meC st sc sl sh sz), .int .i64 v] w (Ret (.bool true) w)) := hide fun v h w => KB.out st sc sl sh _ _ _ _ _ sz v ist isc isl ish (isC_of fsz).1 h w
   obtain ⟨RS, hRS⟩ : ∃ X, (meC st sc sl sh sz) = X := ⟨_, rfl⟩
   obtain ⟨RQ, hRQ⟩ : ∃ X, (meC sq 0 0 0 0) = X := ⟨_, rfl⟩
   have sS : RS.size = 9 := by rw [← hRS]; exact (meX_of _ _ _ _ _).s
   have sQ : RQ.size = 9 := by rw [← hRQ]; exact (meX_of _ _ _ _ _).s
   rw [hRS] at A10 KB2
   rw [hRQ] at A12 A14 EM
   clear hRS hRQ
   have kA2 : Hid (∀ w, Calls Try.prog 15 #[.agg RS, .int .i64 sv] w (Ret (.bool true) w)) := hide (KB2.out sv isv)
   have kA3 : Hid (∀ w, Calls Try.prog 15 #[.agg RS, .int .i64 v] w (Ret (.bool true) w)) := hide (KB2.out v hv)
   have em := EM.out
   have b2 : ((er : Int) == (er : Int)) = true := by simp
   clear Q4 Q10 Q12 Q14 Y6 KB KB2 U8 T8 T6 n16 isc
   refine wp_region_reads ?_
   repeat (first | go_big_quiet_step (first | with_reducible exact quiet_ret (KK.out _) | with_reducible exact quiet_ret (KA.out _) | with_reducible exact quiet_ret (kA2.out _) | with_reducible exact quiet_ret (kA3.out _) | with_reducible exact quiet_ret (KC.out _)) | (refine wq_load (by kernel_rfl) rfl rfl (fun w hw => by obtain ⟨⟨d, os⟩, rfl⟩ := hw; exact ld_all (A12.out.ext (ext_regrown wf d os)) uMean rfl iMean sQ) ?_) | (refine wq_load (by kernel_rfl) rfl rfl (fun w hw => by obtain ⟨⟨d, os⟩, rfl⟩ := hw; exact ld_all (A14.out.ext (ext_regrown wf d os)) uMean rfl iMean sQ) ?_) | (refine wq_load (by kernel_rfl) rfl rfl (fun w hw => by obtain ⟨⟨d, os⟩, rfl⟩ := hw; exact ld_all (A4.out.ext (ext_regrown wf d os)) uMean rfl iMean sM) ?_) | (refine wq_load (by kernel_rfl) rfl rfl (fun w hw => by obtain ⟨⟨d, os⟩, rfl⟩ := hw; exact ld_all (A10.out.ext (ext_regrown wf d os)) uMean rfl iMean sS) ?_) | (refine wq_load (by kernel_rfl) rfl rfl (fun w hw => by obtain ⟨⟨d, os⟩, rfl⟩ := hw; exact ld_all (A16.out.ext (ext_regrown wf d os)) uMean rfl iMean sN) ?_) | quiet_step (first | with_reducible exact quiet_ret (KK.out _) | with_reducible exact quiet_ret (KA.out _) | with_reducible exact quiet_ret (kA2.out _) | with_reducible exact quiet_ret (kA3.out _) | with_reducible exact quiet_ret (KC.out _)))
   refine wpQuiet_nil ?_
   intro _ hw'
   obtain ⟨⟨dq, osq⟩, hw''⟩ := hw'
   subst hw''
   have E9 := hide (YF.out.trans (ext_regrown wf dq osq))
   go_wp2_with fail
   go_ret
   exact ⟨rfl, E9.out⟩
 · have e3 : w8.cell? ⟨g16, 3, none⟩ = some (.int .i64 sh) := P16.out.cell 3
   go_upto_region 15 with fail
   have kN := hide (t_next b b 60 w8.drew i60 (T8.out.ext (ext_drew w8)))
   go_region_law (go_simp; (go_at_call 11; (with_reducible refine (kN.out).mono ?_); rintro e w9 ⟨u, rfl, hu, hT, hU⟩; have U9 := hide hU; have P9 : Hid (Blk w9 g16 27 (meC st sc sl sh sz)) := hide ((hU.2.2.2.2 g16 P16.out.lt (by omega)).trans P16.out); have s3 : w9.cell? ⟨g16, 3, none⟩ = some (.int .i64 sh) := P9.out.cell 3; have f3 := P9.out.frozen 3; clear hT hU))
   all_goals
     go_upto_region 18 with fail
     have V := hide ((Upd.refl g16 w9).set 3 (.int .i64 (IntKind.i64.wrap (sh + u))))
     have A : Hid (Blk (w9.setCell ⟨g16, 3, none⟩ (.int .i64 (IntKind.i64.wrap (sh + u)))) g16 27 (meC st sc sl (IntKind.i64.wrap (sh + u)) sz)) := hide (by have k := P9.out.set_ 3 (.int .i64 (IntKind.i64.wrap (sh + u))); rw [set_3] at k; exact k)
     obtain ⟨wf, hwf⟩ : ∃ w, (w9.setCell ⟨g16, 3, none⟩ (.int .i64 (IntKind.i64.wrap (sh + u)))) = w := ⟨_, rfl⟩
     rw [hwf] at V A
     rw [hwf]
     have UT : Hid (Upd b w6 w9) := hide (U8.out.trans (((ext_drew w8).upd b).trans U9.out))
     obtain ⟨A4, A10, A12, A14, YF⟩ : Hid (Blk wf g4 27 RM) ∧ Hid (Blk wf g10 27 (meC st sc sl sh sz)) ∧ Hid (Blk wf g12 27 (meC sq 0 0 0 0)) ∧ Hid (Blk wf g14 27 (meC sq 0 0 0 0)) ∧ Hid (Ext W wf) := ⟨fin_blke UT.out V.out (by omega) (fun h => n16.1 h.symm) Q4.out, fin_blke UT.out V.out (by omega) (fun h => n16.2.1 h.symm) Q10.out, fin_blke UT.out V.out (by omega) (fun h => n16.2.2.1 h.symm) Q12.out, fin_blke UT.out V.out (by omega) (fun h => n16.2.2.2 h.symm) Q14.out, Upd.ext V.out (Upd.ext UT.out Y6.out (by rw [Hg.out]; omega)) (by rw [Hg.out]; omega)⟩
     obtain ⟨RN, sN, A16, KC⟩ : ∃ R : Array Value, R.size = 9 ∧ Hid (Blk wf g16 27 R) ∧ Hid (∀ w, Calls Try.prog 15 #[.agg R, .int .i64 sv] w (Ret (.bool true) w)) := ⟨(meC st sc sl (IntKind.i64.wrap (sh + u)) sz), (meX_raw _ _ _ _ _ _ _ _ _).s, A, hide (KB.out st sc sl (IntKind.i64.wrap (sh + u)) _ _ _ _ _ sz sv ist isc isl (i64_we _) (isC_of fsz).1 isv)⟩
     clear hwf V A UT kN hu s3 f3 e3 P9 P16 U9
     have EM : Hid (∀ w, (binOp .eql 27 (.agg (meC sq 0 0 0 0)) (.agg (meC sq 0 0 0 0))).run Try.prog w = .ok (.bool true) w) := hide fun w => eqMR _ _ _ _ _ _ _ _ _ w
     have KB2 : Hid (∀ v, I64 v → ∀ w, Calls Try.prog 15 #[.agg (meC st sc sl sh sz), .int .i64 v] w (Ret (.bool true) w)) := hide fun v h w => KB.out st sc sl sh _ _ _ _ _ sz v ist isc isl ish (isC_of fsz).1 h w
     obtain ⟨RS, hRS⟩ : ∃ X, (meC st sc sl sh sz) = X := ⟨_, rfl⟩
     obtain ⟨RQ, hRQ⟩ : ∃ X, (meC sq 0 0 0 0) = X := ⟨_, rfl⟩
     have sS : RS.size = 9 := by rw [← hRS]; exact (meX_of _ _ _ _ _).s
     have sQ : RQ.size = 9 := by rw [← hRQ]; exact (meX_of _ _ _ _ _).s
     rw [hRS] at A10 KB2
     rw [hRQ] at A12 A14 EM
     clear hRS hRQ
     have kA2 : Hid (∀ w, Calls Try.prog 15 #[.agg RS, .int .i64 sv] w (Ret (.bool true) w)) := hide (KB2.out sv isv)
     have kA3 : Hid (∀ w, Calls Try.prog 15 #[.agg RS, .int .i64 v] w (Ret (.bool true) w)) := hide (KB2.out v hv)
     have em := EM.out
     have b2 : ((er : Int) == (er : Int)) = true := by simp
     clear Q4 Q10 Q12 Q14 Y6 KB KB2 U8 T8 T6 n16 isc
     refine wp_region_reads ?_
     repeat (first | go_big_quiet_step (first | with_reducible exact quiet_ret (KK.out _) | with_reducible exact quiet_ret (KA.out _) | with_reducible exact quiet_ret (kA2.out _) | with_reducible exact quiet_ret (kA3.out _) | with_reducible exact quiet_ret (KC.out _)) | (refine wq_load (by kernel_rfl) rfl rfl (fun w hw => by obtain ⟨⟨d, os⟩, rfl⟩ := hw; exact ld_all (A12.out.ext (ext_regrown wf d os)) uMean rfl iMean sQ) ?_) | (refine wq_load (by kernel_rfl) rfl rfl (fun w hw => by obtain ⟨⟨d, os⟩, rfl⟩ := hw; exact ld_all (A14.out.ext (ext_regrown wf d os)) uMean rfl iMean sQ) ?_) | (refine wq_load (by kernel_rfl) rfl rfl (fun w hw => by obtain ⟨⟨d, os⟩, rfl⟩ := hw; exact ld_all (A4.out.ext (ext_regrown wf d os)) uMean rfl iMean sM) ?_) | (refine wq_load (by kernel_rfl) rfl rfl (fun w hw => by obtain ⟨⟨d, os⟩, rfl⟩ := hw; exact ld_all (A10.out.ext (ext_regrown wf d os)) uMean rfl iMean sS) ?_) | (refine wq_load (by kernel_rfl) rfl rfl (fun w hw => by obtain ⟨⟨d, os⟩, rfl⟩ := hw; exact ld_all (A16.out.ext (ext_regrown wf d os)) uMean rfl iMean sN) ?_) | quiet_step (first | with_reducible exact quiet_ret (KK.out _) | with_reducible exact quiet_ret (KA.out _) | with_reducible exact quiet_ret (kA2.out _) | with_reducible exact quiet_ret (kA3.out _) | with_reducible exact quiet_ret (KC.out _)))
     refine wpQuiet_nil ?_
     intro _ hw'
     obtain ⟨⟨dq, osq⟩, hw''⟩ := hw'
     subst hw''
     have E9 := hide (YF.out.trans (ext_regrown wf dq osq))
     go_wp2_with fail
     go_ret
     exact ⟨rfl, E9.out⟩
 · have e4 : w8.cell? ⟨g16, 4, none⟩ = some (.bool (sg sz)) := P16.out.cell 4; have e5 : w8.cell? ⟨g16, 5, none⟩ = some (.int .u64 (l0 sz : Int)) := P16.out.cell 5; have e6 : w8.cell? ⟨g16, 6, none⟩ = some (.int .u64 (l1 sz : Int)) := P16.out.cell 6; have e7 : w8.cell? ⟨g16, 7, none⟩ = some (.int .u64 (l2 sz : Int)) := P16.out.cell 7; have e8 : w8.cell? ⟨g16, 8, none⟩ = some (.int .u64 (l3 sz : Int)) := P16.out.cell 8
   go_upto_region 17 with fail
   have kN := hide (t_next b b 40 w8.drew i40 (T8.out.ext (ext_drew w8)))
   go_region_law (first
     | (go_simp; go_at_call 11; (with_reducible refine (kN.out).mono ?_); rintro e w9 ⟨u, rfl, hu, hT, hU⟩; have U9 := hide hU; have P9 : Hid (Blk w9 g16 27 (meC st sc sl sh sz)) := hide ((hU.2.2.2.2 g16 P16.out.lt (by omega)).trans P16.out); have s4 : w9.cell? ⟨g16, 4, none⟩ = some (.bool (sg sz)) := P9.out.cell 4; have s5 : w9.cell? ⟨g16, 5, none⟩ = some (.int .u64 (l0 sz : Int)) := P9.out.cell 5; have s6 : w9.cell? ⟨g16, 6, none⟩ = some (.int .u64 (l1 sz : Int)) := P9.out.cell 6; have s7 : w9.cell? ⟨g16, 7, none⟩ = some (.int .u64 (l2 sz : Int)) := P9.out.cell 7; have s8 : w9.cell? ⟨g16, 8, none⟩ = some (.int .u64 (l3 sz : Int)) := P9.out.cell 8; have hu2 : 0 ≤ u ∧ u < 40 := ⟨hu.1, hu.2.1 (by omega)⟩; have eu : IntKind.i64.wrap (u - 20) = u - 20 := wrap_20 hu2.1 hu2.2; have iu : -9223372036854775808 ≤ u - 20 ∧ u - 20 ≤ 9223372036854775807 := ⟨by omega, by omega⟩; obtain ⟨sn, hsn⟩ : ∃ q, sz + (u - 20) = q := ⟨_, rfl⟩; have fsn : F256 sn := (by rw [← hsn]; unfold F256; omega); have kO := hide (fun w => d_ofi iu.1 iu.2 w); have kS := hide (fun w => d_add fsz (f64 iu) hsn fsn w); clear hT hU)
     | (go_simp; go_at_call 13; (with_reducible refine (kO.out _).mono ?_); rintro e w10 ⟨rfl, hE10⟩; have E10 := hide hE10; have P10 : Hid (Blk w10 g16 27 (meC st sc sl sh sz)) := hide (P9.out.ext hE10); have r4 : w10.cell? ⟨g16, 4, none⟩ = some (.bool (sg sz)) := P10.out.cell 4; have r5 : w10.cell? ⟨g16, 5, none⟩ = some (.int .u64 (l0 sz : Int)) := P10.out.cell 5; have r6 : w10.cell? ⟨g16, 6, none⟩ = some (.int .u64 (l1 sz : Int)) := P10.out.cell 6; have r7 : w10.cell? ⟨g16, 7, none⟩ = some (.int .u64 (l2 sz : Int)) := P10.out.cell 7; have r8 : w10.cell? ⟨g16, 8, none⟩ = some (.int .u64 (l3 sz : Int)) := P10.out.cell 8; clear hE10)
     | (go_simp; go_at_call 12; (with_reducible refine (kS.out _).mono ?_); rintro e w11 ⟨rfl, hE11⟩; have E11 := hide hE11; have P11 : Hid (Blk w11 g16 27 (meC st sc sl sh sz)) := hide (P10.out.ext hE11); have x4 : w11.cell? ⟨g16, 4, none⟩ = some (.bool (sg sz)) := P11.out.cell 4; have x5 : w11.cell? ⟨g16, 5, none⟩ = some (.int .u64 (l0 sz : Int)) := P11.out.cell 5; have x6 : w11.cell? ⟨g16, 6, none⟩ = some (.int .u64 (l1 sz : Int)) := P11.out.cell 6; have x7 : w11.cell? ⟨g16, 7, none⟩ = some (.int .u64 (l2 sz : Int)) := P11.out.cell 7; have x8 : w11.cell? ⟨g16, 8, none⟩ = some (.int .u64 (l3 sz : Int)) := P11.out.cell 8; have f4 := P11.out.frozen 4; have f5 := P11.out.frozen 5; have f6 := P11.out.frozen 6; have f7 := P11.out.frozen 7; have f8 := P11.out.frozen 8; clear hE11))
   all_goals
     go_upto_region 18 with fail
     have V := hide (((((((Upd.refl g16 w11)).set 4 (.bool (sg sn))).set 5 (.int .u64 (l0 sn : Int))).set 6 (.int .u64 (l1 sn : Int))).set 7 (.int .u64 (l2 sn : Int))).set 8 (.int .u64 (l3 sn : Int)))
     have A : Hid (Blk (((((w11.setCell ⟨g16, 4, none⟩ (.bool (sg sn))).setCell ⟨g16, 5, none⟩ (.int .u64 (l0 sn : Int))).setCell ⟨g16, 6, none⟩ (.int .u64 (l1 sn : Int))).setCell ⟨g16, 7, none⟩ (.int .u64 (l2 sn : Int))).setCell ⟨g16, 8, none⟩ (.int .u64 (l3 sn : Int))) g16 27 (meC st sc sl sh sn)) := hide (by have k := (((((P11.out).set_ 4 (.bool (sg sn))).set_ 5 (.int .u64 (l0 sn : Int))).set_ 6 (.int .u64 (l1 sn : Int))).set_ 7 (.int .u64 (l2 sn : Int))).set_ 8 (.int .u64 (l3 sn : Int)); rw [set_48] at k; exact k)
     obtain ⟨wf, hwf⟩ : ∃ w, (((((w11.setCell ⟨g16, 4, none⟩ (.bool (sg sn))).setCell ⟨g16, 5, none⟩ (.int .u64 (l0 sn : Int))).setCell ⟨g16, 6, none⟩ (.int .u64 (l1 sn : Int))).setCell ⟨g16, 7, none⟩ (.int .u64 (l2 sn : Int))).setCell ⟨g16, 8, none⟩ (.int .u64 (l3 sn : Int))) = w := ⟨_, rfl⟩
     rw [hwf] at V A
     rw [hwf]
     have UT : Hid (Upd b w6 w11) := hide (U8.out.trans (((ext_drew w8).upd b).trans (U9.out.trans ((E10.out.upd b).trans (E11.out.upd b)))))
     obtain ⟨A4, A10, A12, A14, YF⟩ : Hid (Blk wf g4 27 RM) ∧ Hid (Blk wf g10 27 (meC st sc sl sh sz)) ∧ Hid (Blk wf g12 27 (meC sq 0 0 0 0)) ∧ Hid (Blk wf g14 27 (meC sq 0 0 0 0)) ∧ Hid (Ext W wf) := ⟨fin_blke UT.out V.out (by omega) (fun h => n16.1 h.symm) Q4.out, fin_blke UT.out V.out (by omega) (fun h => n16.2.1 h.symm) Q10.out, fin_blke UT.out V.out (by omega) (fun h => n16.2.2.1 h.symm) Q12.out, fin_blke UT.out V.out (by omega) (fun h => n16.2.2.2 h.symm) Q14.out, Upd.ext V.out (Upd.ext UT.out Y6.out (by rw [Hg.out]; omega)) (by rw [Hg.out]; omega)⟩
     obtain ⟨RN, sN, A16, KC⟩ : ∃ R : Array Value, R.size = 9 ∧ Hid (Blk wf g16 27 R) ∧ Hid (∀ w, Calls Try.prog 15 #[.agg R, .int .i64 sv] w (Ret (.bool true) w)) := ⟨(meC st sc sl sh sn), (meX_raw _ _ _ _ _ _ _ _ _).s, A, hide (KB.out st sc sl sh _ _ _ _ _ sn sv ist isc isl ish (isC_of fsn).1 isv)⟩
     clear hwf V A UT kN hu hu2 eu hsn kO kS s4 s5 s6 s7 s8 r4 r5 r6 r7 r8 x4 x5 x6 x7 x8 f4 f5 f6 f7 f8 e4 e5 e6 e7 e8 P9 P10 P11 P16 U9 E10 E11
     have EM : Hid (∀ w, (binOp .eql 27 (.agg (meC sq 0 0 0 0)) (.agg (meC sq 0 0 0 0))).run Try.prog w = .ok (.bool true) w) := hide fun w => eqMR _ _ _ _ _ _ _ _ _ w
     have KB2 : Hid (∀ v, I64 v → ∀ w, Calls Try.prog 15 #[.agg (meC st sc sl sh sz), .int .i64 v] w (Ret (.bool true) w)) := hide fun v h w => KB.out st sc sl sh _ _ _ _ _ sz v ist isc isl ish (isC_of fsz).1 h w
     obtain ⟨RS, hRS⟩ : ∃ X, (meC st sc sl sh sz) = X := ⟨_, rfl⟩
     obtain ⟨RQ, hRQ⟩ : ∃ X, (meC sq 0 0 0 0) = X := ⟨_, rfl⟩
     have sS : RS.size = 9 := by rw [← hRS]; exact (meX_of _ _ _ _ _).s
     have sQ : RQ.size = 9 := by rw [← hRQ]; exact (meX_of _ _ _ _ _).s
     rw [hRS] at A10 KB2
     rw [hRQ] at A12 A14 EM
     clear hRS hRQ
     have kA2 : Hid (∀ w, Calls Try.prog 15 #[.agg RS, .int .i64 sv] w (Ret (.bool true) w)) := hide (KB2.out sv isv)
     have kA3 : Hid (∀ w, Calls Try.prog 15 #[.agg RS, .int .i64 v] w (Ret (.bool true) w)) := hide (KB2.out v hv)
     have em := EM.out
     have b2 : ((er : Int) == (er : Int)) = true := by simp
     clear Q4 Q10 Q12 Q14 Y6 KB KB2 U8 T8 T6 n16 isc
     refine wp_region_reads ?_
     repeat (first | go_big_quiet_step (first | with_reducible exact quiet_ret (KK.out _) | with_reducible exact quiet_ret (KA.out _) | with_reducible exact quiet_ret (kA2.out _) | with_reducible exact quiet_ret (kA3.out _) | with_reducible exact quiet_ret (KC.out _)) | (refine wq_load (by kernel_rfl) rfl rfl (fun w hw => by obtain ⟨⟨d, os⟩, rfl⟩ := hw; exact ld_all (A12.out.ext (ext_regrown wf d os)) uMean rfl iMean sQ) ?_) | (refine wq_load (by kernel_rfl) rfl rfl (fun w hw => by obtain ⟨⟨d, os⟩, rfl⟩ := hw; exact ld_all (A14.out.ext (ext_regrown wf d os)) uMean rfl iMean sQ) ?_) | (refine wq_load (by kernel_rfl) rfl rfl (fun w hw => by obtain ⟨⟨d, os⟩, rfl⟩ := hw; exact ld_all (A4.out.ext (ext_regrown wf d os)) uMean rfl iMean sM) ?_) | (refine wq_load (by kernel_rfl) rfl rfl (fun w hw => by obtain ⟨⟨d, os⟩, rfl⟩ := hw; exact ld_all (A10.out.ext (ext_regrown wf d os)) uMean rfl iMean sS) ?_) | (refine wq_load (by kernel_rfl) rfl rfl (fun w hw => by obtain ⟨⟨d, os⟩, rfl⟩ := hw; exact ld_all (A16.out.ext (ext_regrown wf d os)) uMean rfl iMean sN) ?_) | quiet_step (first | with_reducible exact quiet_ret (KK.out _) | with_reducible exact quiet_ret (KA.out _) | with_reducible exact quiet_ret (kA2.out _) | with_reducible exact quiet_ret (kA3.out _) | with_reducible exact quiet_ret (KC.out _)))
     refine wpQuiet_nil ?_
     intro _ hw'
     obtain ⟨⟨dq, osq⟩, hw''⟩ := hw'
     subst hw''
     have E9 := hide (YF.out.trans (ext_regrown wf dq osq))
     go_wp2_with fail
     go_ret
     exact ⟨rfl, E9.out⟩
 · have e4 : w8.cell? ⟨g16, 4, none⟩ = some (.bool (sg sz)) := P16.out.cell 4; have f4 := P16.out.frozen 4
   obtain ⟨zn, hzn⟩ := isW_not fsz
   go_upto_region 18 with fail
   have V := hide ((Upd.refl g16 w8).set 4 (.bool (!sg sz)))
   have A : Hid (Blk (w8.setCell ⟨g16, 4, none⟩ (.bool (!sg sz))) g16 27 (meR st sc sl sh (!sg sz) (l0 sz) (l1 sz) (l2 sz) (l3 sz))) := hide (by have k := P16.out.set_ 4 (.bool (!sg sz)); rw [set_4] at k; exact k)
   obtain ⟨wf, hwf⟩ : ∃ w, (w8.setCell ⟨g16, 4, none⟩ (.bool (!sg sz))) = w := ⟨_, rfl⟩
   rw [hwf] at V A
   rw [hwf]
   have UT : Hid (Upd b w6 w8) := hide U8.out
   obtain ⟨A4, A10, A12, A14, YF⟩ : Hid (Blk wf g4 27 RM) ∧ Hid (Blk wf g10 27 (meC st sc sl sh sz)) ∧ Hid (Blk wf g12 27 (meC sq 0 0 0 0)) ∧ Hid (Blk wf g14 27 (meC sq 0 0 0 0)) ∧ Hid (Ext W wf) := ⟨fin_blke UT.out V.out (by omega) (fun h => n16.1 h.symm) Q4.out, fin_blke UT.out V.out (by omega) (fun h => n16.2.1 h.symm) Q10.out, fin_blke UT.out V.out (by omega) (fun h => n16.2.2.1 h.symm) Q12.out, fin_blke UT.out V.out (by omega) (fun h => n16.2.2.2 h.symm) Q14.out, Upd.ext V.out (Upd.ext UT.out Y6.out (by rw [Hg.out]; omega)) (by rw [Hg.out]; omega)⟩
   obtain ⟨RN, sN, A16, KC⟩ : ∃ R : Array Value, R.size = 9 ∧ Hid (Blk wf g16 27 R) ∧ Hid (∀ w, Calls Try.prog 15 #[.agg R, .int .i64 sv] w (Ret (.bool true) w)) := ⟨(meR st sc sl sh (!sg sz) (l0 sz) (l1 sz) (l2 sz) (l3 sz)), (meX_raw _ _ _ _ _ _ _ _ _).s, A, hide (KB.out st sc sl sh _ _ _ _ _ zn sv ist isc isl ish hzn isv)⟩
   clear hwf V A UT e4 f4 P16
   have EM : Hid (∀ w, (binOp .eql 27 (.agg (meC sq 0 0 0 0)) (.agg (meC sq 0 0 0 0))).run Try.prog w = .ok (.bool true) w) := hide fun w => eqMR _ _ _ _ _ _ _ _ _ w
   have KB2 : Hid (∀ v, I64 v → ∀ w, Calls Try.prog 15 #[.agg (meC st sc sl sh sz), .int .i64 v] w (Ret (.bool true) w)) := hide fun v h w => KB.out st sc sl sh _ _ _ _ _ sz v ist isc isl ish (isC_of fsz).1 h w
   obtain ⟨RS, hRS⟩ : ∃ X, (meC st sc sl sh sz) = X := ⟨_, rfl⟩
   obtain ⟨RQ, hRQ⟩ : ∃ X, (meC sq 0 0 0 0) = X := ⟨_, rfl⟩
   have sS : RS.size = 9 := by rw [← hRS]; exact (meX_of _ _ _ _ _).s
   have sQ : RQ.size = 9 := by rw [← hRQ]; exact (meX_of _ _ _ _ _).s
   rw [hRS] at A10 KB2
   rw [hRQ] at A12 A14 EM
   clear hRS hRQ
   have kA2 : Hid (∀ w, Calls Try.prog 15 #[.agg RS, .int .i64 sv] w (Ret (.bool true) w)) := hide (KB2.out sv isv)
   have kA3 : Hid (∀ w, Calls Try.prog 15 #[.agg RS, .int .i64 v] w (Ret (.bool true) w)) := hide (KB2.out v hv)
   have em := EM.out
   have b2 : ((er : Int) == (er : Int)) = true := by simp
   clear Q4 Q10 Q12 Q14 Y6 KB KB2 U8 T8 T6 n16 isc
   refine wp_region_reads ?_
   repeat (first | go_big_quiet_step (first | with_reducible exact quiet_ret (KK.out _) | with_reducible exact quiet_ret (KA.out _) | with_reducible exact quiet_ret (kA2.out _) | with_reducible exact quiet_ret (kA3.out _) | with_reducible exact quiet_ret (KC.out _)) | (refine wq_load (by kernel_rfl) rfl rfl (fun w hw => by obtain ⟨⟨d, os⟩, rfl⟩ := hw; exact ld_all (A12.out.ext (ext_regrown wf d os)) uMean rfl iMean sQ) ?_) | (refine wq_load (by kernel_rfl) rfl rfl (fun w hw => by obtain ⟨⟨d, os⟩, rfl⟩ := hw; exact ld_all (A14.out.ext (ext_regrown wf d os)) uMean rfl iMean sQ) ?_) | (refine wq_load (by kernel_rfl) rfl rfl (fun w hw => by obtain ⟨⟨d, os⟩, rfl⟩ := hw; exact ld_all (A4.out.ext (ext_regrown wf d os)) uMean rfl iMean sM) ?_) | (refine wq_load (by kernel_rfl) rfl rfl (fun w hw => by obtain ⟨⟨d, os⟩, rfl⟩ := hw; exact ld_all (A10.out.ext (ext_regrown wf d os)) uMean rfl iMean sS) ?_) | (refine wq_load (by kernel_rfl) rfl rfl (fun w hw => by obtain ⟨⟨d, os⟩, rfl⟩ := hw; exact ld_all (A16.out.ext (ext_regrown wf d os)) uMean rfl iMean sN) ?_) | quiet_step (first | with_reducible exact quiet_ret (KK.out _) | with_reducible exact quiet_ret (KA.out _) | with_reducible exact quiet_ret (kA2.out _) | with_reducible exact quiet_ret (kA3.out _) | with_reducible exact quiet_ret (KC.out _)))
   refine wpQuiet_nil ?_
   intro _ hw'
   obtain ⟨⟨dq, osq⟩, hw''⟩ := hw'
   subst hw''
   have E9 := hide (YF.out.trans (ext_regrown wf dq osq))
   go_wp2_with fail
   go_ret
   exact ⟨rfl, E9.out⟩
end
end Go.Proofs.Ytlfmeiejocpnfaa
