/- Part 5 of what these claims stand on: contracts of the program's and the reference's functions, and plain facts. Conditions: each states its own. -/
import Derived.Test.YtlfmeiejocpnfaaPrM4
import Derived.Deep.RegionLaw
namespace Go.Proofs.Ytlfmeiejocpnfaa
set_option linter.unusedVariables false
set_option linter.unusedSimpArgs false
section
open Go Go.RowKit Go.Sort
attribute [local go_sem] qUpon eUpon putE slE
set_option maxHeartbeats 3200000 in
set_option maxRecDepth 100000 in
theorem p_startE (e : Int) (W : World) (kt : Hid (∀ w, Calls Try.prog 26 #[.int .i64 e] w (Ret (.bool true) w))) : Calls Try.prog 9 #[.int .i64 e] W (Ret (.tuple #[.agg (meC e 0 0 0 0), .int .i64 0]) W) := by
 have P2 := Blk.new W 27 z9m
 have EE := hide (ext_alloc W (.cells z9m 27))
 obtain ⟨W1, hW1⟩ : ∃ W1, (W.alloc (.cells z9m 27)) = W1 := ⟨_, rfl⟩
 obtain ⟨g0, hg⟩ : ∃ g, W.heap.size = g := ⟨_, rfl⟩
 rw [hW1] at P2 EE
 rw [hg] at P2
 have P2_lo : W.heap.size ≤ g0 := by omega
 have HW := hide hW1
 have Hg := hide hg
 clear hW1 hg
 go_enter Try.func9, Try.ntmps9
 go_upto_region 1 with fail
 unfold z9m at HW
 rw [HW.out, Hg.out]
 clear HW Hg
 refine wp_region_reads ?_
 repeat (first | go_big_quiet_step (first | with_reducible exact quiet_ret (kt.out _)) | quiet_step (first | with_reducible exact quiet_ret (kt.out _)))
 refine wpQuiet_nil ?_
 intro _ hw'
 obtain ⟨⟨dq, osq⟩, hw''⟩ := hw'
 subst hw''
 replace P2 := (P2).ext (ext_regrown W1 dq osq)
 replace EE := hide (EE.out.trans (ext_regrown W1 dq osq))
 obtain ⟨w2, hzq1⟩ : ∃ w, grow (redrawn W1 dq) osq = w := ⟨_, rfl⟩
 rw [hzq1] at EE P2 ⊢
 clear hzq1
 go_upto_region 3 with fail
 have P2_lt := P2.lt
 refine wp_evs [.q, .q, .so 0, .q] [0, 0, 0, 0] (fun R => [.int .i64 e, .agg (meC e 0 0 0 0), undef, .int .i64 0]) (fun _ => (.cells #[] 0 (0, 0))) (fun R _ => (.cells (meC e 0 0 0 0) 27 (0, 0))) (fun _ => g0) (XE W) (fun _ => False) (by kernel_rfl) (by kernel_rfl) (by kernel_rfl) rfl (fun _ => rfl) (fun _ h => h.elim) (fun _ _ h => h) (by intro c hc; simp at hc; (try subst hc); (try simp only); omega) (by intro c c' h1 h2 _; simp at h1 h2; omega) (fun R R' => ⟨fun _ => rfl, fun _ => rfl, fun _ => rfl, fun _ => rfl, trivial⟩) (fun _ _ _ _ => rfl) xe_below EE.out ?ops6 ?end6
 case ops6 =>
   refine ⟨?_, ?_, ?_, ?_, trivial⟩
   · refine er_q ?vn3 ?hn3 ?kn3 ?gn3 ?_
     case hn3 => exact rfl
     case vn3 => exact (fun R => .int .i64 e)
     case kn3 => exact (fun R => rfl)
     case gn3 => exact gd_none rfl
     intro R s w' hT hs hw ha
     go_simp
   · refine er_q ?vn4 ?hn4 ?kn4 ?gn4 ?_
     case hn4 => exact rfl
     case vn4 => exact (fun R => .agg (meC e 0 0 0 0))
     case kn4 => exact (fun R => rfl)
     case gn4 => exact gd_none rfl
     intro R s w' hT hs hw ha
     generalize hA : putE _ _ _ _ _ _ _ = AA
     refine q_buildM (vs := #[(0, .int .i64 e)]) rfl ?_ (b_meT e)
     subst hA
     kernel_rfl
   · refine er_so (c := 0) (Ty := ?Tn5) (p := ?pn5) (x := ?xn5) g0 ?fn5 ?un5 ?vn5 ?hn5 ?on5 ?kn5 ?ln5 ?gn5 ?dn5 ?en5 ?_
     case hn5 => exact rfl
     case on5 => exact rfl
     case fn5 => exact (fun R => (.cells (meC e 0 0 0 0) 27 (0, 0)))
     case un5 => exact (fun R => .pointer (some ⟨g0, 0, none⟩))
     case vn5 => exact (fun R => .agg (meC e 0 0 0 0))
     case kn5 => exact (fun R => rfl)
     case ln5 => exact rfl
     case gn5 => exact gd_none rfl
     case dn5 =>
       intro R
       kernel_rfl
     case en5 =>
       intro R
       kernel_rfl
     intro R s ρ w hT hs hp hx hz
     refine ⟨store_rowN (g := g0) rfl hp hx (hz.trans P2) iMean (rfl) ((meX_of e 0 0 0 0).s) ((meX_of e 0 0 0 0).o), fun w1 hF => ext_filled hT hF P2_lo⟩
   · refine er_q ?vn6 ?hn6 ?kn6 ?gn6 ?_
     case hn6 => exact rfl
     case vn6 => exact (fun R => .int .i64 0)
     case kn6 => exact (fun R => rfl)
     case gn6 => exact gd_none rfl
     intro R s w' hT hs hw ha
     go_simp
 case end6 =>
  intro sI R G w7 hI
  have hS := hI.same
  have hTT := hI.holds
  have hz0 := EE.out.size
  replace P2 : Blk w7 g0 27 (meC e 0 0 0 0) := hI.olds' 2 (List.mem_range.2 (show 2 < 4 by decide)) 0 rfl
  replace EE := hide (show Ext _ _ from hTT)
  clear hS hz0 hTT hI P2_lt
  generalize hF : putE _ _ _ _ _ _ _ = FF
  have hF2 : FF = { tmps := #[.int .i64 e, undef, .pointer (some ⟨g0, 0, none⟩), .int .i64 0, .int .i64 e, .bool true, .bool false, undef, .int .i64 e, .agg (meC e 0 0 0 0)], defers := [] } := by subst hF; kernel_rfl
  clear hF
  subst hF2
  go_wp2_with fail
  exact bodyPost_ret (res2 (p := 2) (u := 3) (ty := 27) rfl _ _ _ 27 (meC e 0 0 0 0) _ rfl P2 uMean rfl iMean) rfl ⟨by kernel_rfl, EE.out⟩
set_option maxHeartbeats 3200000 in
set_option maxRecDepth 100000 in
theorem p_startE_no (e : Int) (W : World) (kt : Hid (∀ w, Calls Try.prog 26 #[.int .i64 e] w (Ret (.bool false) w))) : Calls Try.prog 9 #[.int .i64 e] W (Ret (.tuple #[.agg z9m, .int .i64 9]) W) := by
 have P2 := Blk.new W 27 z9m
 have EE := hide (ext_alloc W (.cells z9m 27))
 obtain ⟨W1, hW1⟩ : ∃ W1, (W.alloc (.cells z9m 27)) = W1 := ⟨_, rfl⟩
 obtain ⟨g0, hg⟩ : ∃ g, W.heap.size = g := ⟨_, rfl⟩
 rw [hW1] at P2 EE
 rw [hg] at P2
 have P2_lo : W.heap.size ≤ g0 := by omega
 have HW := hide hW1
 have Hg := hide hg
 clear hW1 hg
 go_enter Try.func9, Try.ntmps9
 go_upto_region 1 with fail
 unfold z9m at HW
 rw [HW.out, Hg.out]
 clear HW Hg
 refine wp_region_reads ?_
 repeat (first | go_big_quiet_step (first | with_reducible exact quiet_ret (kt.out _)) | quiet_step (first | with_reducible exact quiet_ret (kt.out _)))
 refine wpQuiet_nil ?_
 intro _ hw'
 obtain ⟨⟨dq, osq⟩, hw''⟩ := hw'
 subst hw''
 replace P2 := (P2).ext (ext_regrown W1 dq osq)
 replace EE := hide (EE.out.trans (ext_regrown W1 dq osq))
 obtain ⟨w2, hzq1⟩ : ∃ w, grow (redrawn W1 dq) osq = w := ⟨_, rfl⟩
 rw [hzq1] at EE P2 ⊢
 clear hzq1
 go_upto_region 2 with fail
 have P2_lt := P2.lt
 refine wp_evs [.q, .so 0, .q] [0, 0, 0] (fun R => [.agg z9m, undef, .int .i64 9]) (fun _ => (.cells #[] 0 (0, 0))) (fun R _ => (.cells z9m 27 (0, 0))) (fun _ => g0) (XE W) (fun _ => False) (by kernel_rfl) (by kernel_rfl) (by kernel_rfl) rfl (fun _ => rfl) (fun _ h => h.elim) (fun _ _ h => h) (by intro c hc; simp at hc; (try subst hc); (try simp only); omega) (by intro c c' h1 h2 _; simp at h1 h2; omega) (fun R R' => ⟨fun _ => rfl, fun _ => rfl, fun _ => rfl, trivial⟩) (fun _ _ _ _ => rfl) xe_below EE.out ?ops5 ?end5
 case ops5 =>
   refine ⟨?_, ?_, ?_, trivial⟩
   · refine er_q ?vn3 ?hn3 ?kn3 ?gn3 ?_
     case hn3 => exact rfl
     case vn3 => exact (fun R => .agg z9m)
     case kn3 => exact (fun R => rfl)
     case gn3 => exact gd_none rfl
     intro R s w' hT hs hw ha
     generalize hA : putE _ _ _ _ _ _ _ = AA
     refine q_buildM (vs := #[]) rfl ?_ (b_me0)
     subst hA
     kernel_rfl
   · refine er_so (c := 0) (Ty := ?Tn4) (p := ?pn4) (x := ?xn4) g0 ?fn4 ?un4 ?vn4 ?hn4 ?on4 ?kn4 ?ln4 ?gn4 ?dn4 ?en4 ?_
     case hn4 => exact rfl
     case on4 => exact rfl
     case fn4 => exact (fun R => (.cells z9m 27 (0, 0)))
     case un4 => exact (fun R => .pointer (some ⟨g0, 0, none⟩))
     case vn4 => exact (fun R => .agg z9m)
     case kn4 => exact (fun R => rfl)
     case ln4 => exact rfl
     case gn4 => exact gd_none rfl
     case dn4 =>
       intro R
       kernel_rfl
     case en4 =>
       intro R
       kernel_rfl
     intro R s ρ w hT hs hp hx hz
     refine ⟨store_rowN (g := g0) rfl hp hx (hz.trans P2) iMean (rfl) (rfl) (z9m_one), fun w1 hF => ext_filled hT hF P2_lo⟩
   · refine er_q ?vn5 ?hn5 ?kn5 ?gn5 ?_
     case hn5 => exact rfl
     case vn5 => exact (fun R => .int .i64 9)
     case kn5 => exact (fun R => rfl)
     case gn5 => exact gd_none rfl
     intro R s w' hT hs hw ha
     go_simp
 case end5 =>
  intro sI R G w6 hI
  have hS := hI.same
  have hTT := hI.holds
  have hz0 := EE.out.size
  replace P2 : Blk w6 g0 27 z9m := hI.olds' 1 (List.mem_range.2 (show 1 < 3 by decide)) 0 rfl
  replace EE := hide (show Ext _ _ from hTT)
  clear hS hz0 hTT hI P2_lt
  generalize hF : putE _ _ _ _ _ _ _ = FF
  have hF2 : FF = { tmps := #[.int .i64 e, undef, .pointer (some ⟨g0, 0, none⟩), .int .i64 9, .int .i64 e, .bool false, .bool true, .agg z9m, undef, undef], defers := [] } := by subst hF; kernel_rfl
  clear hF
  subst hF2
  go_wp2_with fail
  exact bodyPost_ret (res2 (p := 2) (u := 3) (ty := 27) rfl _ _ _ 27 z9m _ rfl P2 uMean rfl iMean) rfl ⟨by kernel_rfl, EE.out⟩
set_option maxHeartbeats 3200000 in
set_option maxRecDepth 100000 in
theorem p_ext0e (X : Array Value) (t c lo hi z : Int) (hX : MeX X t c lo hi (wCe z)) (v : Int) (d0 : (c == 0) = true) (W : World) : Calls Try.prog 62 #[.agg X, .int .i64 v] W (Ret (.tuple #[.agg z9m, .bool false]) W) := by
 have P2 := (Blk.new W 27 X).alloc (.cells z9m 27)
 have P4 := Blk.new (W.alloc (.cells X 27)) 27 z9m
 rw [alloc_size] at P4
 have EE := hide ((ext_alloc W (.cells X 27)).trans (ext_alloc _ (.cells z9m 27)))
 obtain ⟨W1, hW1⟩ : ∃ W1, ((W.alloc (.cells X 27)).alloc (.cells z9m 27)) = W1 := ⟨_, rfl⟩
 obtain ⟨g0, hg⟩ : ∃ g, W.heap.size = g := ⟨_, rfl⟩
 rw [hW1] at P2 P4 EE
 rw [hg] at P2 P4
 have P2_lo : W.heap.size ≤ g0 := by omega
 have P4_lo : W.heap.size ≤ g0 + 1 := by omega
 have HW := hide hW1
 have Hg := hide hg
 clear hW1 hg
 go_enter Try.func62, Try.ntmps62
 go_upto_region 1 with fail
 unfold z9m at HW
 rw [HW.out, Hg.out]
 clear HW Hg
 have cq1_0 := fun d os => (((P2).ext (ext_regrown W1 d os)).cell 1).trans (hX.x1)
 refine wp_region_reads ?_
 repeat (first | go_big_quiet_step (fail) | quiet_step (fail))
 refine wpQuiet_nil ?_
 intro _ hw'
 obtain ⟨⟨dq, osq⟩, hw''⟩ := hw'
 subst hw''
 replace P2 := (P2).ext (ext_regrown W1 dq osq)
 replace P4 := (P4).ext (ext_regrown W1 dq osq)
 replace EE := hide (EE.out.trans (ext_regrown W1 dq osq))
 obtain ⟨w2, hzq1⟩ : ∃ w, grow (redrawn W1 dq) osq = w := ⟨_, rfl⟩
 rw [hzq1] at EE P2 P4 ⊢
 clear hzq1 cq1_0
 go_upto_region 2 with fail
 have P2_lt := P2.lt
 have P4_lt := P4.lt
 refine wp_evs [.q, .so 0, .q] [0, 0, 0] (fun R => [.agg z9m, undef, .bool false]) (fun _ => (.cells #[] 0 (0, 0))) (fun R _ => (.cells z9m 27 (0, 0))) (fun _ => g0 + 1) (XE W) (fun _ => False) (by kernel_rfl) (by kernel_rfl) (by kernel_rfl) rfl (fun _ => rfl) (fun _ h => h.elim) (fun _ _ h => h) (by intro c hc; simp at hc; (try subst hc); (try simp only); omega) (by intro c c' h1 h2 _; simp at h1 h2; omega) (fun R R' => ⟨fun _ => rfl, fun _ => rfl, fun _ => rfl, trivial⟩) (fun _ _ _ _ => rfl) xe_below EE.out ?ops5 ?end5
 case ops5 =>
   refine ⟨?_, ?_, ?_, trivial⟩
   · refine er_q ?vn3 ?hn3 ?kn3 ?gn3 ?_
     case hn3 => exact rfl
     case vn3 => exact (fun R => .agg z9m)
     case kn3 => exact (fun R => rfl)
     case gn3 => exact gd_none rfl
     intro R s w' hT hs hw ha
     generalize hA : putE _ _ _ _ _ _ _ = AA
     refine q_buildM (vs := #[]) rfl ?_ (b_me0)
     subst hA
     kernel_rfl
   · refine er_so (c := 0) (Ty := ?Tn4) (p := ?pn4) (x := ?xn4) (g0 + 1) ?fn4 ?un4 ?vn4 ?hn4 ?on4 ?kn4 ?ln4 ?gn4 ?dn4 ?en4 ?_
     case hn4 => exact rfl
     case on4 => exact rfl
     case fn4 => exact (fun R => (.cells z9m 27 (0, 0)))
     case un4 => exact (fun R => .pointer (some ⟨g0 + 1, 0, none⟩))
     case vn4 => exact (fun R => .agg z9m)
     case kn4 => exact (fun R => rfl)
     case ln4 => exact rfl
     case gn4 => exact gd_none rfl
     case dn4 =>
       intro R
       kernel_rfl
     case en4 =>
       intro R
       kernel_rfl
     intro R s ρ w hT hs hp hx hz
     refine ⟨store_rowN (g := (g0 + 1)) rfl hp hx (hz.trans P4) iMean (rfl) (rfl) (z9m_one), fun w1 hF => ext_filled hT hF P4_lo⟩
   · refine er_q ?vn5 ?hn5 ?kn5 ?gn5 ?_
     case hn5 => exact rfl
     case vn5 => exact (fun R => .bool false)
     case kn5 => exact (fun R => rfl)
     case gn5 => exact gd_none rfl
     intro R s w' hT hs hw ha
     go_simp
 case end5 =>
  intro sI R G w6 hI
  have hS := hI.same
  have hTT := hI.holds
  have hz0 := EE.out.size
  replace P2 := P2.sameE hS (fun h => h) (by intro c hc; simp at hc; (try subst hc); (try simp only); omega)
  replace P4 : Blk w6 (g0 + 1) 27 z9m := hI.olds' 1 (List.mem_range.2 (show 1 < 3 by decide)) 0 rfl
  replace EE := hide (show Ext _ _ from hTT)
  clear hS hz0 hTT hI P2_lt P4_lt
  generalize hF : putE _ _ _ _ _ _ _ = FF
  have hF2 : FF = { tmps := #[.agg X, .int .i64 v, .pointer (some ⟨g0, 0, none⟩), undef, .pointer (some ⟨g0 + 1, 0, none⟩), .bool false, undef, undef, undef, .pointer (some ⟨g0, 1, none⟩), .int .i64 c, .bool true, .agg z9m, undef, undef, undef, undef, undef, undef, undef, undef, undef, undef, undef, undef, undef, undef, undef, undef, undef, undef, undef, undef, undef, undef, undef, undef, undef, undef, undef, undef], defers := [] } := by subst hF; kernel_rfl
  clear hF
  subst hF2
  go_wp2_with fail
  exact bodyPost_ret (res2 (p := 4) (u := 5) (ty := 27) rfl _ _ _ 27 z9m _ rfl P4 uMean rfl iMean) rfl ⟨by kernel_rfl, EE.out⟩
set_option maxHeartbeats 3200000 in
set_option maxRecDepth 100000 in
theorem p_extNe (X : Array Value) (t c lo hi z : Int) (hX : MeX X t c lo hi (wCe z)) (v : Int) (u : Int) (d0 : (c == 0) = false) (wr : IntKind.i64.wrap (c + 1) = c + 1) (k1 : Hid (∀ w, Calls Try.prog 68 #[.int .i64 v] w (Ret (.agg (wCe v)) w))) (k2 : Hid (∀ w, Calls Try.prog 73 #[.agg (wCe z), .agg (wCe v)] w (Ret (.tuple #[.agg (wCe u), .bool true]) w))) (kn : Hid (∀ w, Calls Try.prog 57 #[.agg (meC t (c + 1) (min lo v) (max hi v) u)] w (Ret (.bool false) w))) (W : World) : Calls Try.prog 62 #[.agg X, .int .i64 v] W (Ret (.tuple #[.agg z9m, .bool false]) W) := by
 have P2 := (Blk.new W 27 X).alloc (.cells z9m 27)
 have P4 := Blk.new (W.alloc (.cells X 27)) 27 z9m
 rw [alloc_size] at P4
 have EE := hide ((ext_alloc W (.cells X 27)).trans (ext_alloc _ (.cells z9m 27)))
 obtain ⟨W1, hW1⟩ : ∃ W1, ((W.alloc (.cells X 27)).alloc (.cells z9m 27)) = W1 := ⟨_, rfl⟩
 obtain ⟨g0, hg⟩ : ∃ g, W.heap.size = g := ⟨_, rfl⟩
 rw [hW1] at P2 P4 EE
 rw [hg] at P2 P4
 have P2_lo : W.heap.size ≤ g0 := by omega
 have P4_lo : W.heap.size ≤ g0 + 1 := by omega
 have HW := hide hW1
 have Hg := hide hg
 clear hW1 hg
 go_enter Try.func62, Try.ntmps62
 go_upto_region 1 with fail
 unfold z9m at HW
 rw [HW.out, Hg.out]
 clear HW Hg
 have cq1_0 := fun d os => (((P2).ext (ext_regrown W1 d os)).cell 1).trans (hX.x1)
 refine wp_region_reads ?_
 repeat (first | go_big_quiet_step (fail) | quiet_step (fail))
 refine wpQuiet_nil ?_
 intro _ hw'
 obtain ⟨⟨dq, osq⟩, hw''⟩ := hw'
 subst hw''
 replace P2 := (P2).ext (ext_regrown W1 dq osq)
 replace P4 := (P4).ext (ext_regrown W1 dq osq)
 replace EE := hide (EE.out.trans (ext_regrown W1 dq osq))
 obtain ⟨w2, hzq1⟩ : ∃ w, grow (redrawn W1 dq) osq = w := ⟨_, rfl⟩
 rw [hzq1] at EE P2 P4 ⊢
 clear hzq1 cq1_0
 go_upto_region 3 with fail
 have P2_lt := P2.lt
 have P4_lt := P4.lt
 refine wp_ev [.q, .q, .q, .q, .q, .q, .q, .q, .al, .st 8, .q] [0, 0, 0, 0, 0, 0, 0, 0, 0, 0, 0] (fun R => [.pointer (some ⟨g0, 4, none⟩), .agg (wCe z), .int .i64 v, .agg (wCe v), .tuple #[.agg (wCe u), .bool true], .tuple #[.agg (wCe u), .bool true], .agg (wCe u), .bool true, undef, undef, .bool true]) (fun _ => (.cells z5 25 (0, 0))) (fun R _ => (.cells (wCe u) 25 (0, 0))) (fun _ => 0) (XE W) (fun _ => False) (by kernel_rfl) (by kernel_rfl) (by kernel_rfl) (by kernel_rfl) rfl (fun _ => rfl) (fun _ h => h.elim) (fun _ _ h => h) (by simp) (by simp) (fun R R' => ⟨fun _ => rfl, fun _ => rfl, fun _ => rfl, fun _ => rfl, fun _ => rfl, fun _ => rfl, fun _ => rfl, fun _ => rfl, fun _ => rfl, fun _ => rfl, fun _ => rfl, trivial⟩) (fun _ _ _ _ => rfl) xe_below (EE.out.trans (ext_drew _)) ?ops13 ?end13
 case ops13 =>
   refine ⟨?_, ?_, ?_, ?_, ?_, ?_, ?_, ?_, ?_, ?_, ?_, trivial⟩
   · refine er_q ?vn3 ?hn3 ?kn3 ?gn3 ?_
     case hn3 => exact rfl
     case vn3 => exact (fun R => .pointer (some ⟨g0, 4, none⟩))
     case kn3 => exact (fun R => rfl)
     case gn3 => exact gd_none rfl
     intro R s w' hT hs hw ha
     go_simp
   · refine er_q ?vn4 ?hn4 ?kn4 ?gn4 ?_
     case hn4 => exact rfl
     case vn4 => exact (fun R => .agg (wCe z))
     case kn4 => exact (fun R => rfl)
     case gn4 => exact gd_none rfl
     intro R s w' hT hs hw ha
     have L := run_load_part (P2.sameE hw (fun h => h) (by simp)) _ _ uWide rfl 4 5 iWide (by rw [hX.s]; first | decide | omega) _ (hX.x4)
     generalize hA : putE _ _ _ _ _ _ _ = AA
     refine q_load rfl ?_ L
     subst hA
     kernel_rfl
   · refine er_q ?vn5 ?hn5 ?kn5 ?gn5 ?_
     case hn5 => exact rfl
     case vn5 => exact (fun R => .int .i64 v)
     case kn5 => exact (fun R => rfl)
     case gn5 => exact gd_none rfl
     intro R s w' hT hs hw ha
     go_simp
   · refine er_q ?vn6 ?hn6 ?kn6 ?gn6 ?_
     case hn6 => exact rfl
     case vn6 => exact (fun R => .agg (wCe v))
     case kn6 => exact (fun R => rfl)
     case gn6 => exact gd_none rfl
     intro R s w' hT hs hw ha
     go_simp
     exact k1.out w'
   · refine er_q ?vn7 ?hn7 ?kn7 ?gn7 ?_
     case hn7 => exact rfl
     case vn7 => exact (fun R => .tuple #[.agg (wCe u), .bool true])
     case kn7 => exact (fun R => rfl)
     case gn7 => exact gd_none rfl
     intro R s w' hT hs hw ha
     go_simp
     exact k2.out w'
   · refine er_q ?vn8 ?hn8 ?kn8 ?gn8 ?_
     case hn8 => exact rfl
     case vn8 => exact (fun R => .tuple #[.agg (wCe u), .bool true])
     case kn8 => exact (fun R => rfl)
     case gn8 => exact gd_none rfl
     intro R s w' hT hs hw ha
     go_simp
   · refine er_q ?vn9 ?hn9 ?kn9 ?gn9 ?_
     case hn9 => exact rfl
     case vn9 => exact (fun R => .agg (wCe u))
     case kn9 => exact (fun R => rfl)
     case gn9 => exact gd_none rfl
     intro R s w' hT hs hw ha
     go_simp
   · refine er_q ?vn10 ?hn10 ?kn10 ?gn10 ?_
     case hn10 => exact rfl
     case vn10 => exact (fun R => .bool true)
     case kn10 => exact (fun R => rfl)
     case gn10 => exact gd_none rfl
     intro R s w' hT hs hw ha
     go_simp
   · refine er_al ?zn11 ?hn11 ?kn11 ?gn11 ?_
     case zn11 => exact (.cells z5 25 (0, 0))
     case hn11 => exact rfl
     case kn11 => exact rfl
     case gn11 => exact gd_none rfl
     intro ρ w'
     go_simp
     exact ⟨rfl, rfl⟩
   · refine er_st (j := 8) (Ty := ?Tn12) (p := ?pn12) (x := ?xn12) ?fn12 ?zn12 ?vn12 ?hn12 ?on12 ?kn12 ?ln12 ?gn12 ?en12 ?_
     case hn12 => exact rfl
     case on12 => exact rfl
     case fn12 => exact (fun R => (.cells (wCe u) 25 (0, 0)))
     case zn12 => exact (.cells z5 25 (0, 0))
     case vn12 => exact (fun R => .agg (wCe u))
     case kn12 => exact (fun R => rfl)
     case ln12 => exact rfl
     case gn12 => exact gd_none rfl
     case en12 =>
       intro R
       kernel_rfl
     intro R s ρ w g hT hs hp hx hg hz
     exact ⟨store_row rfl hp hx hz iWide ((wC_size u)) ((wC_onee u)), fun w1 hF => ext_filled hT hF (Nat.le_trans EE.out.size hg)⟩
   · refine er_q ?vn13 ?hn13 ?kn13 ?gn13 ?_
     case hn13 => exact rfl
     case vn13 => exact (fun R => .bool true)
     case kn13 => exact (fun R => rfl)
     case gn13 => exact gd_none rfl
     intro R s w' hT hs hw ha
     go_simp
 case end13 =>
  intro sI R G w14 hI
  have hS := hI.same
  have hTT := hI.holds
  have hz0 := EE.out.size
  replace P2 := P2.sameE hS (fun h => h) (by simp)
  replace P4 := P4.sameE hS (fun h => h) (by simp)
  have P6 : Blk w14 (G 8) 25 (wCe u) := (hI.fulls 9 (List.mem_range.2 (show 9 < 11 by decide)) 8 rfl).2.2
  have hmP6 := (hI.made 8 (List.mem_range.2 (show 8 < 11 by decide)) rfl).1
  have P6_lo : W.heap.size ≤ G 8 := Nat.le_trans hz0 hmP6
  have ngP2_6 : g0 ≠ G 8 := by omega
  have ngP4_6 : g0 + 1 ≠ G 8 := by omega
  replace EE := hide (show Ext _ _ from hTT)
  clear hS hz0 hTT hI P2_lt P4_lt
  generalize hF : putE _ _ _ _ _ _ _ = FF
  have hF2 : FF = { tmps := #[.agg X, .int .i64 v, .pointer (some ⟨g0, 0, none⟩), undef, .pointer (some ⟨g0 + 1, 0, none⟩), .bool false, .pointer (some ⟨G 8, 0, none⟩), .bool true, undef, .pointer (some ⟨g0, 1, none⟩), .int .i64 c, .bool false, undef, .tuple #[.agg (wCe u), .bool true], .pointer (some ⟨g0, 4, none⟩), .agg (wCe z), .int .i64 v, .agg (wCe v), .tuple #[.agg (wCe u), .bool true], .agg (wCe u), .bool true, undef, undef, undef, undef, undef, undef, undef, undef, undef, undef, undef, undef, undef, undef, undef, undef, undef, undef, undef, undef], defers := [] } := by subst hF; kernel_rfl
  clear hF
  subst hF2
  generalize G 8 = g6 at *
  go_upto_region 4 with fail
  have P2_lt := P2.lt
  have P4_lt := P4.lt
  have P6_lt := P6.lt
  refine wp_evs [.q, .q, .q, .q, .q, .q, .q, .q, .q, .q, .q, .q, .q, .q, .q, .al, .st 15] [0, 0, 0, 0, 0, 0, 0, 0, 0, 0, 0, 0, 0, 0, 0, 0, 0] (fun R => [.pointer (some ⟨g0, 0, none⟩), .int .i64 t, .pointer (some ⟨g0, 1, none⟩), .int .i64 c, .int .i64 (c + 1), .pointer (some ⟨g0, 2, none⟩), .int .i64 lo, .int .i64 v, .int .i64 (min lo v), .pointer (some ⟨g0, 3, none⟩), .int .i64 hi, .int .i64 v, .int .i64 (max hi v), .agg (wCe u), .agg (meC t (c + 1) (min lo v) (max hi v) u), undef, undef]) (fun _ => (.cells z9m 27 (0, 0))) (fun R _ => (.cells (meC t (c + 1) (min lo v) (max hi v) u) 27 (0, 0))) (fun _ => 0) (XE W) (fun _ => False) (by kernel_rfl) (by kernel_rfl) (by kernel_rfl) rfl (fun _ => rfl) (fun _ h => h.elim) (fun _ _ h => h) (by simp) (by simp) (fun R R' => ⟨fun _ => rfl, fun _ => rfl, fun _ => rfl, fun _ => rfl, fun _ => rfl, fun _ => rfl, fun _ => rfl, fun _ => rfl, fun _ => rfl, fun _ => rfl, fun _ => rfl, fun _ => rfl, fun _ => rfl, fun _ => rfl, fun _ => rfl, fun _ => rfl, fun _ => rfl, trivial⟩) (fun _ _ _ _ => rfl) xe_below EE.out ?ops31 ?end31
  case ops31 =>
    refine ⟨?_, ?_, ?_, ?_, ?_, ?_, ?_, ?_, ?_, ?_, ?_, ?_, ?_, ?_, ?_, ?_, ?_, trivial⟩
    · refine er_q ?vn15 ?hn15 ?kn15 ?gn15 ?_
      case hn15 => exact rfl
      case vn15 => exact (fun R => .pointer (some ⟨g0, 0, none⟩))
      case kn15 => exact (fun R => rfl)
      case gn15 => exact gd_none rfl
      intro R s w' hT hs hw ha
      go_simp
    · refine er_q ?vn16 ?hn16 ?kn16 ?gn16 ?_
      case hn16 => exact rfl
      case vn16 => exact (fun R => .int .i64 t)
      case kn16 => exact (fun R => rfl)
      case gn16 => exact gd_none rfl
      intro R s w' hT hs hw ha
      have cc := ((show Blk w' g0 _ X from P2.sameE hw (fun h => h) (by simp)).cell 0).trans (hX.x0)
      go_simp
    · refine er_q ?vn17 ?hn17 ?kn17 ?gn17 ?_
      case hn17 => exact rfl
      case vn17 => exact (fun R => .pointer (some ⟨g0, 1, none⟩))
      case kn17 => exact (fun R => rfl)
      case gn17 => exact gd_none rfl
      intro R s w' hT hs hw ha
      go_simp
    · refine er_q ?vn18 ?hn18 ?kn18 ?gn18 ?_
      case hn18 => exact rfl
      case vn18 => exact (fun R => .int .i64 c)
      case kn18 => exact (fun R => rfl)
      case gn18 => exact gd_none rfl
      intro R s w' hT hs hw ha
      have cc := ((show Blk w' g0 _ X from P2.sameE hw (fun h => h) (by simp)).cell 1).trans (hX.x1)
      go_simp
    · refine er_q ?vn19 ?hn19 ?kn19 ?gn19 ?_
      case hn19 => exact rfl
      case vn19 => exact (fun R => .int .i64 (c + 1))
      case kn19 => exact (fun R => rfl)
      case gn19 => exact gd_none rfl
      intro R s w' hT hs hw ha
      go_simp
    · refine er_q ?vn20 ?hn20 ?kn20 ?gn20 ?_
      case hn20 => exact rfl
      case vn20 => exact (fun R => .pointer (some ⟨g0, 2, none⟩))
      case kn20 => exact (fun R => rfl)
      case gn20 => exact gd_none rfl
      intro R s w' hT hs hw ha
      go_simp
    · refine er_q ?vn21 ?hn21 ?kn21 ?gn21 ?_
      case hn21 => exact rfl
      case vn21 => exact (fun R => .int .i64 lo)
      case kn21 => exact (fun R => rfl)
      case gn21 => exact gd_none rfl
      intro R s w' hT hs hw ha
      have cc := ((show Blk w' g0 _ X from P2.sameE hw (fun h => h) (by simp)).cell 2).trans (hX.x2)
      go_simp
    · refine er_q ?vn22 ?hn22 ?kn22 ?gn22 ?_
      case hn22 => exact rfl
      case vn22 => exact (fun R => .int .i64 v)
      case kn22 => exact (fun R => rfl)
      case gn22 => exact gd_none rfl
      intro R s w' hT hs hw ha
      go_simp
    · refine er_q ?vn23 ?hn23 ?kn23 ?gn23 ?_
      case hn23 => exact rfl
      case vn23 => exact (fun R => .int .i64 (min lo v))
      case kn23 => exact (fun R => rfl)
      case gn23 => exact gd_none rfl
      intro R s w' hT hs hw ha
      go_simp
    · refine er_q ?vn24 ?hn24 ?kn24 ?gn24 ?_
      case hn24 => exact rfl
      case vn24 => exact (fun R => .pointer (some ⟨g0, 3, none⟩))
      case kn24 => exact (fun R => rfl)
      case gn24 => exact gd_none rfl
      intro R s w' hT hs hw ha
      go_simp
    · refine er_q ?vn25 ?hn25 ?kn25 ?gn25 ?_
      case hn25 => exact rfl
      case vn25 => exact (fun R => .int .i64 hi)
      case kn25 => exact (fun R => rfl)
      case gn25 => exact gd_none rfl
      intro R s w' hT hs hw ha
      have cc := ((show Blk w' g0 _ X from P2.sameE hw (fun h => h) (by simp)).cell 3).trans (hX.x3)
      go_simp
    · refine er_q ?vn26 ?hn26 ?kn26 ?gn26 ?_
      case hn26 => exact rfl
      case vn26 => exact (fun R => .int .i64 v)
      case kn26 => exact (fun R => rfl)
      case gn26 => exact gd_none rfl
      intro R s w' hT hs hw ha
      go_simp
    · refine er_q ?vn27 ?hn27 ?kn27 ?gn27 ?_
      case hn27 => exact rfl
      case vn27 => exact (fun R => .int .i64 (max hi v))
      case kn27 => exact (fun R => rfl)
      case gn27 => exact gd_none rfl
      intro R s w' hT hs hw ha
      go_simp
    · refine er_q ?vn28 ?hn28 ?kn28 ?gn28 ?_
      case hn28 => exact rfl
      case vn28 => exact (fun R => .agg (wCe u))
      case kn28 => exact (fun R => rfl)
      case gn28 => exact gd_none rfl
      intro R s w' hT hs hw ha
      have L := ld_all (P6.sameE hw (fun h => h) (by simp)) uWide rfl iWide (wC_size u)
      generalize hA : putE _ _ _ _ _ _ _ = AA
      refine q_load rfl ?_ L
      subst hA
      kernel_rfl
    · refine er_q ?vn29 ?hn29 ?kn29 ?gn29 ?_
      case hn29 => exact rfl
      case vn29 => exact (fun R => .agg (meC t (c + 1) (min lo v) (max hi v) u))
      case kn29 => exact (fun R => rfl)
      case gn29 => exact gd_none rfl
      intro R s w' hT hs hw ha
      generalize hA : putE _ _ _ _ _ _ _ = AA
      refine q_buildM (vs := #[(0, .int .i64 t), (1, .int .i64 (c + 1)), (2, .int .i64 (min lo v)), (3, .int .i64 (max hi v)), (4, .agg (wCe u))]) rfl ?_ (b_me5w t (c + 1) (min lo v) (max hi v) u)
      subst hA
      kernel_rfl
    · refine er_al ?zn30 ?hn30 ?kn30 ?gn30 ?_
      case zn30 => exact (.cells z9m 27 (0, 0))
      case hn30 => exact rfl
      case kn30 => exact rfl
      case gn30 => exact gd_none rfl
      intro ρ w'
      go_simp
      exact ⟨rfl, rfl⟩
    · refine er_st (j := 15) (Ty := ?Tn31) (p := ?pn31) (x := ?xn31) ?fn31 ?zn31 ?vn31 ?hn31 ?on31 ?kn31 ?ln31 ?gn31 ?en31 ?_
      case hn31 => exact rfl
      case on31 => exact rfl
      case fn31 => exact (fun R => (.cells (meC t (c + 1) (min lo v) (max hi v) u) 27 (0, 0)))
      case zn31 => exact (.cells z9m 27 (0, 0))
      case vn31 => exact (fun R => .agg (meC t (c + 1) (min lo v) (max hi v) u))
      case kn31 => exact (fun R => rfl)
      case ln31 => exact rfl
      case gn31 => exact gd_none rfl
      case en31 =>
        intro R
        kernel_rfl
      intro R s ρ w g hT hs hp hx hg hz
      exact ⟨store_row rfl hp hx hz iMean ((meX_of t (c + 1) (min lo v) (max hi v) u).s) ((meX_of t (c + 1) (min lo v) (max hi v) u).o), fun w1 hF => ext_filled hT hF (Nat.le_trans EE.out.size hg)⟩
  case end31 =>
   intro sI R G w32 hI
   have hS := hI.same
   have hTT := hI.holds
   have hz0 := EE.out.size
   replace P2 := P2.sameE hS (fun h => h) (by simp)
   replace P4 := P4.sameE hS (fun h => h) (by simp)
   replace P6 := P6.sameE hS (fun h => h) (by simp)
   have P8 : Blk w32 (G 15) 27 (meC t (c + 1) (min lo v) (max hi v) u) := (hI.fulls 16 (List.mem_range.2 (show 16 < 17 by decide)) 15 rfl).2.2
   have hmP8 := (hI.made 15 (List.mem_range.2 (show 15 < 17 by decide)) rfl).1
   have P8_lo : W.heap.size ≤ G 15 := Nat.le_trans hz0 hmP8
   have ngP2_8 : g0 ≠ G 15 := by omega
   have ngP4_8 : g0 + 1 ≠ G 15 := by omega
   have ngP6_8 : g6 ≠ G 15 := by omega
   replace EE := hide (show Ext _ _ from hTT)
   clear hS hz0 hTT hI P2_lt P4_lt P6_lt
   generalize hF : putE _ _ _ _ _ _ _ = FF
   have hF2 : FF = { tmps := #[.agg X, .int .i64 v, .pointer (some ⟨g0, 0, none⟩), undef, .pointer (some ⟨g0 + 1, 0, none⟩), .bool false, .pointer (some ⟨g6, 0, none⟩), .bool true, .pointer (some ⟨G 15, 0, none⟩), .pointer (some ⟨g0, 1, none⟩), .int .i64 c, .bool false, undef, .tuple #[.agg (wCe u), .bool true], .pointer (some ⟨g0, 4, none⟩), .agg (wCe z), .int .i64 v, .agg (wCe v), .tuple #[.agg (wCe u), .bool true], .agg (wCe u), .bool true, .pointer (some ⟨g0, 0, none⟩), .int .i64 t, .pointer (some ⟨g0, 1, none⟩), .int .i64 c, .int .i64 (c + 1), .pointer (some ⟨g0, 2, none⟩), .int .i64 lo, .int .i64 v, .int .i64 (min lo v), .pointer (some ⟨g0, 3, none⟩), .int .i64 hi, .int .i64 v, .int .i64 (max hi v), .agg (wCe u), .agg (meC t (c + 1) (min lo v) (max hi v) u), undef, undef, undef, undef, undef], defers := [] } := by subst hF; kernel_rfl
   clear hF
   subst hF2
   generalize G 15 = g8 at *
   go_upto_region 5 with fail
   refine wp_region_reads ?_
   repeat (first | go_big_quiet_step (first | with_reducible exact quiet_ret (kn.out _)) | (refine wq_load (by kernel_rfl) rfl rfl (fun w hw => by obtain ⟨⟨d, os⟩, rfl⟩ := hw; exact ld_all ((P8).ext (ext_regrown w32 d os)) uMean rfl iMean (meX_of t (c + 1) (min lo v) (max hi v) u).s) ?_) | quiet_step (first | with_reducible exact quiet_ret (kn.out _)))
   refine wpQuiet_nil ?_
   intro _ hw'
   obtain ⟨⟨dq, osq⟩, hw''⟩ := hw'
   subst hw''
   replace P2 := (P2).ext (ext_regrown w32 dq osq)
   replace P4 := (P4).ext (ext_regrown w32 dq osq)
   replace P6 := (P6).ext (ext_regrown w32 dq osq)
   replace P8 := (P8).ext (ext_regrown w32 dq osq)
   replace EE := hide (EE.out.trans (ext_regrown w32 dq osq))
   obtain ⟨w34, hzq33⟩ : ∃ w, grow (redrawn w32 dq) osq = w := ⟨_, rfl⟩
   rw [hzq33] at EE P2 P4 P6 P8 ⊢
   clear hzq33
   go_upto_region 6 with fail
   have P2_lt := P2.lt
   have P4_lt := P4.lt
   have P6_lt := P6.lt
   have P8_lt := P8.lt
   refine wp_evs [.q, .so 0, .q] [0, 0, 0] (fun R => [.agg z9m, undef, .bool false]) (fun _ => (.cells #[] 0 (0, 0))) (fun R _ => (.cells z9m 27 (0, 0))) (fun _ => g0 + 1) (XE W) (fun _ => False) (by kernel_rfl) (by kernel_rfl) (by kernel_rfl) rfl (fun _ => rfl) (fun _ h => h.elim) (fun _ _ h => h) (by intro c hc; simp at hc; (try subst hc); (try simp only); omega) (by intro c c' h1 h2 _; simp at h1 h2; omega) (fun R R' => ⟨fun _ => rfl, fun _ => rfl, fun _ => rfl, trivial⟩) (fun _ _ _ _ => rfl) xe_below EE.out ?ops37 ?end37
   case ops37 =>
     refine ⟨?_, ?_, ?_, trivial⟩
     · refine er_q ?vn35 ?hn35 ?kn35 ?gn35 ?_
       case hn35 => exact rfl
       case vn35 => exact (fun R => .agg z9m)
       case kn35 => exact (fun R => rfl)
       case gn35 => exact gd_none rfl
       intro R s w' hT hs hw ha
       generalize hA : putE _ _ _ _ _ _ _ = AA
       refine q_buildM (vs := #[]) rfl ?_ (b_me0)
       subst hA
       kernel_rfl
     · refine er_so (c := 0) (Ty := ?Tn36) (p := ?pn36) (x := ?xn36) (g0 + 1) ?fn36 ?un36 ?vn36 ?hn36 ?on36 ?kn36 ?ln36 ?gn36 ?dn36 ?en36 ?_
       case hn36 => exact rfl
       case on36 => exact rfl
       case fn36 => exact (fun R => (.cells z9m 27 (0, 0)))
       case un36 => exact (fun R => .pointer (some ⟨g0 + 1, 0, none⟩))
       case vn36 => exact (fun R => .agg z9m)
       case kn36 => exact (fun R => rfl)
       case ln36 => exact rfl
       case gn36 => exact gd_none rfl
       case dn36 =>
         intro R
         kernel_rfl
       case en36 =>
         intro R
         kernel_rfl
       intro R s ρ w hT hs hp hx hz
       refine ⟨store_rowN (g := (g0 + 1)) rfl hp hx (hz.trans P4) iMean (rfl) (rfl) (z9m_one), fun w1 hF => ext_filled hT hF P4_lo⟩
     · refine er_q ?vn37 ?hn37 ?kn37 ?gn37 ?_
       case hn37 => exact rfl
       case vn37 => exact (fun R => .bool false)
       case kn37 => exact (fun R => rfl)
       case gn37 => exact gd_none rfl
       intro R s w' hT hs hw ha
       go_simp
   case end37 =>
    intro sI R G w38 hI
    have hS := hI.same
    have hTT := hI.holds
    have hz0 := EE.out.size
    replace P2 := P2.sameE hS (fun h => h) (by intro c hc; simp at hc; (try subst hc); (try simp only); omega)
    replace P6 := P6.sameE hS (fun h => h) (by intro c hc; simp at hc; (try subst hc); (try simp only); omega)
    replace P8 := P8.sameE hS (fun h => h) (by intro c hc; simp at hc; (try subst hc); (try simp only); omega)
    replace P4 : Blk w38 (g0 + 1) 27 z9m := hI.olds' 1 (List.mem_range.2 (show 1 < 3 by decide)) 0 rfl
    replace EE := hide (show Ext _ _ from hTT)
    clear hS hz0 hTT hI P2_lt P4_lt P6_lt P8_lt
    generalize hF : putE _ _ _ _ _ _ _ = FF
    have hF2 : FF = { tmps := #[.agg X, .int .i64 v, .pointer (some ⟨g0, 0, none⟩), undef, .pointer (some ⟨g0 + 1, 0, none⟩), .bool false, .pointer (some ⟨g6, 0, none⟩), .bool true, .pointer (some ⟨g8, 0, none⟩), .pointer (some ⟨g0, 1, none⟩), .int .i64 c, .bool false, undef, .tuple #[.agg (wCe u), .bool true], .pointer (some ⟨g0, 4, none⟩), .agg (wCe z), .int .i64 v, .agg (wCe v), .tuple #[.agg (wCe u), .bool true], .agg (wCe u), .bool true, .pointer (some ⟨g0, 0, none⟩), .int .i64 t, .pointer (some ⟨g0, 1, none⟩), .int .i64 c, .int .i64 (c + 1), .pointer (some ⟨g0, 2, none⟩), .int .i64 lo, .int .i64 v, .int .i64 (min lo v), .pointer (some ⟨g0, 3, none⟩), .int .i64 hi, .int .i64 v, .int .i64 (max hi v), .agg (wCe u), .agg (meC t (c + 1) (min lo v) (max hi v) u), .agg (meC t (c + 1) (min lo v) (max hi v) u), .bool false, .bool true, .agg z9m, undef], defers := [] } := by subst hF; kernel_rfl
    clear hF
    subst hF2
    go_wp2_with fail
    exact bodyPost_ret (res2 (p := 4) (u := 5) (ty := 27) rfl _ _ _ 27 z9m _ rfl P4 uMean rfl iMean) rfl ⟨by kernel_rfl, EE.out⟩
set_option maxHeartbeats 3200000 in
set_option maxRecDepth 100000 in
theorem p_extYe (X : Array Value) (t c lo hi z : Int) (hX : MeX X t c lo hi (wCe z)) (v : Int) (u : Int) (d0 : (c == 0) = false) (wr : IntKind.i64.wrap (c + 1) = c + 1) (k1 : Hid (∀ w, Calls Try.prog 68 #[.int .i64 v] w (Ret (.agg (wCe v)) w))) (k2 : Hid (∀ w, Calls Try.prog 73 #[.agg (wCe z), .agg (wCe v)] w (Ret (.tuple #[.agg (wCe u), .bool true]) w))) (kn : Hid (∀ w, Calls Try.prog 57 #[.agg (meC t (c + 1) (min lo v) (max hi v) u)] w (Ret (.bool true) w))) (W : World) : Calls Try.prog 62 #[.agg X, .int .i64 v] W (Ret (.tuple #[.agg (meC t (c + 1) (min lo v) (max hi v) u), .bool true]) W) := by
 have P2 := (Blk.new W 27 X).alloc (.cells z9m 27)
 have P4 := Blk.new (W.alloc (.cells X 27)) 27 z9m
 rw [alloc_size] at P4
 have EE := hide ((ext_alloc W (.cells X 27)).trans (ext_alloc _ (.cells z9m 27)))
 obtain ⟨W1, hW1⟩ : ∃ W1, ((W.alloc (.cells X 27)).alloc (.cells z9m 27)) = W1 := ⟨_, rfl⟩
 obtain ⟨g0, hg⟩ : ∃ g, W.heap.size = g := ⟨_, rfl⟩
 rw [hW1] at P2 P4 EE
 rw [hg] at P2 P4
 have P2_lo : W.heap.size ≤ g0 := by omega
 have P4_lo : W.heap.size ≤ g0 + 1 := by omega
 have HW := hide hW1
 have Hg := hide hg
 clear hW1 hg
 go_enter Try.func62, Try.ntmps62
 go_upto_region 1 with fail
 unfold z9m at HW
 rw [HW.out, Hg.out]
 clear HW Hg
 have cq1_0 := fun d os => (((P2).ext (ext_regrown W1 d os)).cell 1).trans (hX.x1)
 refine wp_region_reads ?_
 repeat (first | go_big_quiet_step (fail) | quiet_step (fail))
 refine wpQuiet_nil ?_
 intro _ hw'
 obtain ⟨⟨dq, osq⟩, hw''⟩ := hw'
 subst hw''
 replace P2 := (P2).ext (ext_regrown W1 dq osq)
 replace P4 := (P4).ext (ext_regrown W1 dq osq)
 replace EE := hide (EE.out.trans (ext_regrown W1 dq osq))
 obtain ⟨w2, hzq1⟩ : ∃ w, grow (redrawn W1 dq) osq = w := ⟨_, rfl⟩
 rw [hzq1] at EE P2 P4 ⊢
 clear hzq1 cq1_0
 go_upto_region 3 with fail
 have P2_lt := P2.lt
 have P4_lt := P4.lt
 refine wp_ev [.q, .q, .q, .q, .q, .q, .q, .q, .al, .st 8, .q] [0, 0, 0, 0, 0, 0, 0, 0, 0, 0, 0] (fun R => [.pointer (some ⟨g0, 4, none⟩), .agg (wCe z), .int .i64 v, .agg (wCe v), .tuple #[.agg (wCe u), .bool true], .tuple #[.agg (wCe u), .bool true], .agg (wCe u), .bool true, undef, undef, .bool true]) (fun _ => (.cells z5 25 (0, 0))) (fun R _ => (.cells (wCe u) 25 (0, 0))) (fun _ => 0) (XE W) (fun _ => False) (by kernel_rfl) (by kernel_rfl) (by kernel_rfl) (by kernel_rfl) rfl (fun _ => rfl) (fun _ h => h.elim) (fun _ _ h => h) (by simp) (by simp) (fun R R' => ⟨fun _ => rfl, fun _ => rfl, fun _ => rfl, fun _ => rfl, fun _ => rfl, fun _ => rfl, fun _ => rfl, fun _ => rfl, fun _ => rfl, fun _ => rfl, fun _ => rfl, trivial⟩) (fun _ _ _ _ => rfl) xe_below (EE.out.trans (ext_drew _)) ?ops13 ?end13
 case ops13 =>
   refine ⟨?_, ?_, ?_, ?_, ?_, ?_, ?_, ?_, ?_, ?_, ?_, trivial⟩
   · refine er_q ?vn3 ?hn3 ?kn3 ?gn3 ?_
     case hn3 => exact rfl
     case vn3 => exact (fun R => .pointer (some ⟨g0, 4, none⟩))
     case kn3 => exact (fun R => rfl)
     case gn3 => exact gd_none rfl
     intro R s w' hT hs hw ha
     go_simp
   · refine er_q ?vn4 ?hn4 ?kn4 ?gn4 ?_
     case hn4 => exact rfl
     case vn4 => exact (fun R => .agg (wCe z))
     case kn4 => exact (fun R => rfl)
     case gn4 => exact gd_none rfl
     intro R s w' hT hs hw ha
     have L := run_load_part (P2.sameE hw (fun h => h) (by simp)) _ _ uWide rfl 4 5 iWide (by rw [hX.s]; first | decide | omega) _ (hX.x4)
     generalize hA : putE _ _ _ _ _ _ _ = AA
     refine q_load rfl ?_ L
     subst hA
     kernel_rfl
   · refine er_q ?vn5 ?hn5 ?kn5 ?gn5 ?_
     case hn5 => exact rfl
     case vn5 => exact (fun R => .int .i64 v)
     case kn5 => exact (fun R => rfl)
     case gn5 => exact gd_none rfl
     intro R s w' hT hs hw ha
     go_simp
   · refine er_q ?vn6 ?hn6 ?kn6 ?gn6 ?_
     case hn6 => exact rfl
     case vn6 => exact (fun R => .agg (wCe v))
     case kn6 => exact (fun R => rfl)
     case gn6 => exact gd_none rfl
     intro R s w' hT hs hw ha
     go_simp
     exact k1.out w'
   · refine er_q ?vn7 ?hn7 ?kn7 ?gn7 ?_
     case hn7 => exact rfl
     case vn7 => exact (fun R => .tuple #[.agg (wCe u), .bool true])
     case kn7 => exact (fun R => rfl)
     case gn7 => exact gd_none rfl
     intro R s w' hT hs hw ha
     go_simp
     exact k2.out w'
   · refine er_q ?vn8 ?hn8 ?kn8 ?gn8 ?_
     case hn8 => exact rfl
     case vn8 => exact (fun R => .tuple #[.agg (wCe u), .bool true])
     case kn8 => exact (fun R => rfl)
     case gn8 => exact gd_none rfl
     intro R s w' hT hs hw ha
     go_simp
   · refine er_q ?vn9 ?hn9 ?kn9 ?gn9 ?_
     case hn9 => exact rfl
     case vn9 => exact (fun R => .agg (wCe u))
     case kn9 => exact (fun R => rfl)
     case gn9 => exact gd_none rfl
     intro R s w' hT hs hw ha
     go_simp
   · refine er_q ?vn10 ?hn10 ?kn10 ?gn10 ?_
     case hn10 => exact rfl
     case vn10 => exact (fun R => .bool true)
     case kn10 => exact (fun R => rfl)
     case gn10 => exact gd_none rfl
     intro R s w' hT hs hw ha
     go_simp
   · refine er_al ?zn11 ?hn11 ?kn11 ?gn11 ?_
     case zn11 => exact (.cells z5 25 (0, 0))
     case hn11 => exact rfl
     case kn11 => exact rfl
     case gn11 => exact gd_none rfl
     intro ρ w'
     go_simp
     exact ⟨rfl, rfl⟩
   · refine er_st (j := 8) (Ty := ?Tn12) (p := ?pn12) (x := ?xn12) ?fn12 ?zn12 ?vn12 ?hn12 ?on12 ?kn12 ?ln12 ?gn12 ?en12 ?_
     case hn12 => exact rfl
     case on12 => exact rfl
     case fn12 => exact (fun R => (.cells (wCe u) 25 (0, 0)))
     case zn12 => exact (.cells z5 25 (0, 0))
     case vn12 => exact (fun R => .agg (wCe u))
     case kn12 => exact (fun R => rfl)
     case ln12 => exact rfl
     case gn12 => exact gd_none rfl
     case en12 =>
       intro R
       kernel_rfl
     intro R s ρ w g hT hs hp hx hg hz
     exact ⟨store_row rfl hp hx hz iWide ((wC_size u)) ((wC_onee u)), fun w1 hF => ext_filled hT hF (Nat.le_trans EE.out.size hg)⟩
   · refine er_q ?vn13 ?hn13 ?kn13 ?gn13 ?_
     case hn13 => exact rfl
     case vn13 => exact (fun R => .bool true)
     case kn13 => exact (fun R => rfl)
     case gn13 => exact gd_none rfl
     intro R s w' hT hs hw ha
     go_simp
 case end13 =>
  intro sI R G w14 hI
  have hS := hI.same
  have hTT := hI.holds
  have hz0 := EE.out.size
  replace P2 := P2.sameE hS (fun h => h) (by simp)
  replace P4 := P4.sameE hS (fun h => h) (by simp)
  have P6 : Blk w14 (G 8) 25 (wCe u) := (hI.fulls 9 (List.mem_range.2 (show 9 < 11 by decide)) 8 rfl).2.2
  have hmP6 := (hI.made 8 (List.mem_range.2 (show 8 < 11 by decide)) rfl).1
  have P6_lo : W.heap.size ≤ G 8 := Nat.le_trans hz0 hmP6
  have ngP2_6 : g0 ≠ G 8 := by omega
  have ngP4_6 : g0 + 1 ≠ G 8 := by omega
  replace EE := hide (show Ext _ _ from hTT)
  clear hS hz0 hTT hI P2_lt P4_lt
  generalize hF : putE _ _ _ _ _ _ _ = FF
  have hF2 : FF = { tmps := #[.agg X, .int .i64 v, .pointer (some ⟨g0, 0, none⟩), undef, .pointer (some ⟨g0 + 1, 0, none⟩), .bool false, .pointer (some ⟨G 8, 0, none⟩), .bool true, undef, .pointer (some ⟨g0, 1, none⟩), .int .i64 c, .bool false, undef, .tuple #[.agg (wCe u), .bool true], .pointer (some ⟨g0, 4, none⟩), .agg (wCe z), .int .i64 v, .agg (wCe v), .tuple #[.agg (wCe u), .bool true], .agg (wCe u), .bool true, undef, undef, undef, undef, undef, undef, undef, undef, undef, undef, undef, undef, undef, undef, undef, undef, undef, undef, undef, undef], defers := [] } := by subst hF; kernel_rfl
  clear hF
  subst hF2
  generalize G 8 = g6 at *
  go_upto_region 4 with fail
  have P2_lt := P2.lt
  have P4_lt := P4.lt
  have P6_lt := P6.lt
  refine wp_evs [.q, .q, .q, .q, .q, .q, .q, .q, .q, .q, .q, .q, .q, .q, .q, .al, .st 15] [0, 0, 0, 0, 0, 0, 0, 0, 0, 0, 0, 0, 0, 0, 0, 0, 0] (fun R => [.pointer (some ⟨g0, 0, none⟩), .int .i64 t, .pointer (some ⟨g0, 1, none⟩), .int .i64 c, .int .i64 (c + 1), .pointer (some ⟨g0, 2, none⟩), .int .i64 lo, .int .i64 v, .int .i64 (min lo v), .pointer (some ⟨g0, 3, none⟩), .int .i64 hi, .int .i64 v, .int .i64 (max hi v), .agg (wCe u), .agg (meC t (c + 1) (min lo v) (max hi v) u), undef, undef]) (fun _ => (.cells z9m 27 (0, 0))) (fun R _ => (.cells (meC t (c + 1) (min lo v) (max hi v) u) 27 (0, 0))) (fun _ => 0) (XE W) (fun _ => False) (by kernel_rfl) (by kernel_rfl) (by kernel_rfl) rfl (fun _ => rfl) (fun _ h => h.elim) (fun _ _ h => h) (by simp) (by simp) (fun R R' => ⟨fun _ => rfl, fun _ => rfl, fun _ => rfl, fun _ => rfl, fun _ => rfl, fun _ => rfl, fun _ => rfl, fun _ => rfl, fun _ => rfl, fun _ => rfl, fun _ => rfl, fun _ => rfl, fun _ => rfl, fun _ => rfl, fun _ => rfl, fun _ => rfl, fun _ => rfl, trivial⟩) (fun _ _ _ _ => rfl) xe_below EE.out ?ops31 ?end31
  case ops31 =>
    refine ⟨?_, ?_, ?_, ?_, ?_, ?_, ?_, ?_, ?_, ?_, ?_, ?_, ?_, ?_, ?_, ?_, ?_, trivial⟩
    · refine er_q ?vn15 ?hn15 ?kn15 ?gn15 ?_
      case hn15 => exact rfl
      case vn15 => exact (fun R => .pointer (some ⟨g0, 0, none⟩))
      case kn15 => exact (fun R => rfl)
      case gn15 => exact gd_none rfl
      intro R s w' hT hs hw ha
      go_simp
    · refine er_q ?vn16 ?hn16 ?kn16 ?gn16 ?_
      case hn16 => exact rfl
      case vn16 => exact (fun R => .int .i64 t)
      case kn16 => exact (fun R => rfl)
      case gn16 => exact gd_none rfl
      intro R s w' hT hs hw ha
      have cc := ((show Blk w' g0 _ X from P2.sameE hw (fun h => h) (by simp)).cell 0).trans (hX.x0)
      go_simp
    · refine er_q ?vn17 ?hn17 ?kn17 ?gn17 ?_
      case hn17 => exact rfl
      case vn17 => exact (fun R => .pointer (some ⟨g0, 1, none⟩))
      case kn17 => exact (fun R => rfl)
      case gn17 => exact gd_none rfl
      intro R s w' hT hs hw ha
      go_simp
    · refine er_q ?vn18 ?hn18 ?kn18 ?gn18 ?_
      case hn18 => exact rfl
      case vn18 => exact (fun R => .int .i64 c)
      case kn18 => exact (fun R => rfl)
      case gn18 => exact gd_none rfl
      intro R s w' hT hs hw ha
      have cc := ((show Blk w' g0 _ X from P2.sameE hw (fun h => h) (by simp)).cell 1).trans (hX.x1)
      go_simp
    · refine er_q ?vn19 ?hn19 ?kn19 ?gn19 ?_
      case hn19 => exact rfl
      case vn19 => exact (fun R => .int .i64 (c + 1))
      case kn19 => exact (fun R => rfl)
      case gn19 => exact gd_none rfl
      intro R s w' hT hs hw ha
      go_simp
    · refine er_q ?vn20 ?hn20 ?kn20 ?gn20 ?_
      case hn20 => exact rfl
      case vn20 => exact (fun R => .pointer (some ⟨g0, 2, none⟩))
      case kn20 => exact (fun R => rfl)
      case gn20 => exact gd_none rfl
      intro R s w' hT hs hw ha
      go_simp
    · refine er_q ?vn21 ?hn21 ?kn21 ?gn21 ?_
      case hn21 => exact rfl
      case vn21 => exact (fun R => .int .i64 lo)
      case kn21 => exact (fun R => rfl)
      case gn21 => exact gd_none rfl
      intro R s w' hT hs hw ha
      have cc := ((show Blk w' g0 _ X from P2.sameE hw (fun h => h) (by simp)).cell 2).trans (hX.x2)
      go_simp
    · refine er_q ?vn22 ?hn22 ?kn22 ?gn22 ?_
      case hn22 => exact rfl
      case vn22 => exact (fun R => .int .i64 v)
      case kn22 => exact (fun R => rfl)
      case gn22 => exact gd_none rfl
      intro R s w' hT hs hw ha
      go_simp
    · refine er_q ?vn23 ?hn23 ?kn23 ?gn23 ?_
      case hn23 => exact rfl
      case vn23 => exact (fun R => .int .i64 (min lo v))
      case kn23 => exact (fun R => rfl)
      case gn23 => exact gd_none rfl
      intro R s w' hT hs hw ha
      go_simp
    · refine er_q ?vn24 ?hn24 ?kn24 ?gn24 ?_
      case hn24 => exact rfl
      case vn24 => exact (fun R => .pointer (some ⟨g0, 3, none⟩))
      case kn24 => exact (fun R => rfl)
      case gn24 => exact gd_none rfl
      intro R s w' hT hs hw ha
      go_simp
    · refine er_q ?vn25 ?hn25 ?kn25 ?gn25 ?_
      case hn25 => exact rfl
      case vn25 => exact (fun R => .int .i64 hi)
      case kn25 => exact (fun R => rfl)
      case gn25 => exact gd_none rfl
      intro R s w' hT hs hw ha
      have cc := ((show Blk w' g0 _ X from P2.sameE hw (fun h => h) (by simp)).cell 3).trans (hX.x3)
      go_simp
    · refine er_q ?vn26 ?hn26 ?kn26 ?gn26 ?_
      case hn26 => exact rfl
      case vn26 => exact (fun R => .int .i64 v)
      case kn26 => exact (fun R => rfl)
      case gn26 => exact gd_none rfl
      intro R s w' hT hs hw ha
      go_simp
    · refine er_q ?vn27 ?hn27 ?kn27 ?gn27 ?_
      case hn27 => exact rfl
      case vn27 => exact (fun R => .int .i64 (max hi v))
      case kn27 => exact (fun R => rfl)
      case gn27 => exact gd_none rfl
      intro R s w' hT hs hw ha
      go_simp
    · refine er_q ?vn28 ?hn28 ?kn28 ?gn28 ?_
      case hn28 => exact rfl
      case vn28 => exact (fun R => .agg (wCe u))
      case kn28 => exact (fun R => rfl)
      case gn28 => exact gd_none rfl
      intro R s w' hT hs hw ha
      have L := ld_all (P6.sameE hw (fun h => h) (by simp)) uWide rfl iWide (wC_size u)
      generalize hA : putE _ _ _ _ _ _ _ = AA
      refine q_load rfl ?_ L
      subst hA
      kernel_rfl
    · refine er_q ?vn29 ?hn29 ?kn29 ?gn29 ?_
      case hn29 => exact rfl
      case vn29 => exact (fun R => .agg (meC t (c + 1) (min lo v) (max hi v) u))
      case kn29 => exact (fun R => rfl)
      case gn29 => exact gd_none rfl
      intro R s w' hT hs hw ha
      generalize hA : putE _ _ _ _ _ _ _ = AA
      refine q_buildM (vs := #[(0, .int .i64 t), (1, .int .i64 (c + 1)), (2, .int .i64 (min lo v)), (3, .int .i64 (max hi v)), (4, .agg (wCe u))]) rfl ?_ (b_me5w t (c + 1) (min lo v) (max hi v) u)
      subst hA
      kernel_rfl
    · refine er_al ?zn30 ?hn30 ?kn30 ?gn30 ?_
      case zn30 => exact (.cells z9m 27 (0, 0))
      case hn30 => exact rfl
      case kn30 => exact rfl
      case gn30 => exact gd_none rfl
      intro ρ w'
      go_simp
      exact ⟨rfl, rfl⟩
    · refine er_st (j := 15) (Ty := ?Tn31) (p := ?pn31) (x := ?xn31) ?fn31 ?zn31 ?vn31 ?hn31 ?on31 ?kn31 ?ln31 ?gn31 ?en31 ?_
      case hn31 => exact rfl
      case on31 => exact rfl
      case fn31 => exact (fun R => (.cells (meC t (c + 1) (min lo v) (max hi v) u) 27 (0, 0)))
      case zn31 => exact (.cells z9m 27 (0, 0))
      case vn31 => exact (fun R => .agg (meC t (c + 1) (min lo v) (max hi v) u))
      case kn31 => exact (fun R => rfl)
      case ln31 => exact rfl
      case gn31 => exact gd_none rfl
      case en31 =>
        intro R
        kernel_rfl
      intro R s ρ w g hT hs hp hx hg hz
      exact ⟨store_row rfl hp hx hz iMean ((meX_of t (c + 1) (min lo v) (max hi v) u).s) ((meX_of t (c + 1) (min lo v) (max hi v) u).o), fun w1 hF => ext_filled hT hF (Nat.le_trans EE.out.size hg)⟩
  case end31 =>
   intro sI R G w32 hI
   have hS := hI.same
   have hTT := hI.holds
   have hz0 := EE.out.size
   replace P2 := P2.sameE hS (fun h => h) (by simp)
   replace P4 := P4.sameE hS (fun h => h) (by simp)
   replace P6 := P6.sameE hS (fun h => h) (by simp)
   have P8 : Blk w32 (G 15) 27 (meC t (c + 1) (min lo v) (max hi v) u) := (hI.fulls 16 (List.mem_range.2 (show 16 < 17 by decide)) 15 rfl).2.2
   have hmP8 := (hI.made 15 (List.mem_range.2 (show 15 < 17 by decide)) rfl).1
   have P8_lo : W.heap.size ≤ G 15 := Nat.le_trans hz0 hmP8
   have ngP2_8 : g0 ≠ G 15 := by omega
   have ngP4_8 : g0 + 1 ≠ G 15 := by omega
   have ngP6_8 : g6 ≠ G 15 := by omega
   replace EE := hide (show Ext _ _ from hTT)
   clear hS hz0 hTT hI P2_lt P4_lt P6_lt
   generalize hF : putE _ _ _ _ _ _ _ = FF
   have hF2 : FF = { tmps := #[.agg X, .int .i64 v, .pointer (some ⟨g0, 0, none⟩), undef, .pointer (some ⟨g0 + 1, 0, none⟩), .bool false, .pointer (some ⟨g6, 0, none⟩), .bool true, .pointer (some ⟨G 15, 0, none⟩), .pointer (some ⟨g0, 1, none⟩), .int .i64 c, .bool false, undef, .tuple #[.agg (wCe u), .bool true], .pointer (some ⟨g0, 4, none⟩), .agg (wCe z), .int .i64 v, .agg (wCe v), .tuple #[.agg (wCe u), .bool true], .agg (wCe u), .bool true, .pointer (some ⟨g0, 0, none⟩), .int .i64 t, .pointer (some ⟨g0, 1, none⟩), .int .i64 c, .int .i64 (c + 1), .pointer (some ⟨g0, 2, none⟩), .int .i64 lo, .int .i64 v, .int .i64 (min lo v), .pointer (some ⟨g0, 3, none⟩), .int .i64 hi, .int .i64 v, .int .i64 (max hi v), .agg (wCe u), .agg (meC t (c + 1) (min lo v) (max hi v) u), undef, undef, undef, undef, undef], defers := [] } := by subst hF; kernel_rfl
   clear hF
   subst hF2
   generalize G 15 = g8 at *
   go_upto_region 5 with fail
   refine wp_region_reads ?_
   repeat (first | go_big_quiet_step (first | with_reducible exact quiet_ret (kn.out _)) | (refine wq_load (by kernel_rfl) rfl rfl (fun w hw => by obtain ⟨⟨d, os⟩, rfl⟩ := hw; exact ld_all ((P8).ext (ext_regrown w32 d os)) uMean rfl iMean (meX_of t (c + 1) (min lo v) (max hi v) u).s) ?_) | quiet_step (first | with_reducible exact quiet_ret (kn.out _)))
   refine wpQuiet_nil ?_
   intro _ hw'
   obtain ⟨⟨dq, osq⟩, hw''⟩ := hw'
   subst hw''
   replace P2 := (P2).ext (ext_regrown w32 dq osq)
   replace P4 := (P4).ext (ext_regrown w32 dq osq)
   replace P6 := (P6).ext (ext_regrown w32 dq osq)
   replace P8 := (P8).ext (ext_regrown w32 dq osq)
   replace EE := hide (EE.out.trans (ext_regrown w32 dq osq))
   obtain ⟨w34, hzq33⟩ : ∃ w, grow (redrawn w32 dq) osq = w := ⟨_, rfl⟩
   rw [hzq33] at EE P2 P4 P6 P8 ⊢
   clear hzq33
   go_upto_region 7 with fail
   have P2_lt := P2.lt
   have P4_lt := P4.lt
   have P6_lt := P6.lt
   have P8_lt := P8.lt
   refine wp_evs [.q, .so 0, .q] [0, 0, 0] (fun R => [.agg (meC t (c + 1) (min lo v) (max hi v) u), undef, .bool true]) (fun _ => (.cells #[] 0 (0, 0))) (fun R _ => (.cells (meC t (c + 1) (min lo v) (max hi v) u) 27 (0, 0))) (fun _ => g0 + 1) (XE W) (fun _ => False) (by kernel_rfl) (by kernel_rfl) (by kernel_rfl) rfl (fun _ => rfl) (fun _ h => h.elim) (fun _ _ h => h) (by intro c hc; simp at hc; (try subst hc); (try simp only); omega) (by intro c c' h1 h2 _; simp at h1 h2; omega) (fun R R' => ⟨fun _ => rfl, fun _ => rfl, fun _ => rfl, trivial⟩) (fun _ _ _ _ => rfl) xe_below EE.out ?ops37 ?end37
   case ops37 =>
     refine ⟨?_, ?_, ?_, trivial⟩
     · refine er_q ?vn35 ?hn35 ?kn35 ?gn35 ?_
       case hn35 => exact rfl
       case vn35 => exact (fun R => .agg (meC t (c + 1) (min lo v) (max hi v) u))
       case kn35 => exact (fun R => rfl)
       case gn35 => exact gd_none rfl
       intro R s w' hT hs hw ha
       have L := ld_all (P8.sameE hw (fun h => h) (by intro c hc; simp at hc; (try subst hc); (try simp only); omega)) uMean rfl iMean (meX_of t (c + 1) (min lo v) (max hi v) u).s
       generalize hA : putE _ _ _ _ _ _ _ = AA
       refine q_load rfl ?_ L
       subst hA
       kernel_rfl
     · refine er_so (c := 0) (Ty := ?Tn36) (p := ?pn36) (x := ?xn36) (g0 + 1) ?fn36 ?un36 ?vn36 ?hn36 ?on36 ?kn36 ?ln36 ?gn36 ?dn36 ?en36 ?_
       case hn36 => exact rfl
       case on36 => exact rfl
       case fn36 => exact (fun R => (.cells (meC t (c + 1) (min lo v) (max hi v) u) 27 (0, 0)))
       case un36 => exact (fun R => .pointer (some ⟨g0 + 1, 0, none⟩))
       case vn36 => exact (fun R => .agg (meC t (c + 1) (min lo v) (max hi v) u))
       case kn36 => exact (fun R => rfl)
       case ln36 => exact rfl
       case gn36 => exact gd_none rfl
       case dn36 =>
         intro R
         kernel_rfl
       case en36 =>
         intro R
         kernel_rfl
       intro R s ρ w hT hs hp hx hz
       refine ⟨store_rowN (g := (g0 + 1)) rfl hp hx (hz.trans P4) iMean (rfl) ((meX_of t (c + 1) (min lo v) (max hi v) u).s) ((meX_of t (c + 1) (min lo v) (max hi v) u).o), fun w1 hF => ext_filled hT hF P4_lo⟩
     · refine er_q ?vn37 ?hn37 ?kn37 ?gn37 ?_
       case hn37 => exact rfl
       case vn37 => exact (fun R => .bool true)
       case kn37 => exact (fun R => rfl)
       case gn37 => exact gd_none rfl
       intro R s w' hT hs hw ha
       go_simp
   case end37 =>
    intro sI R G w38 hI
    have hS := hI.same
    have hTT := hI.holds
    have hz0 := EE.out.size
    replace P2 := P2.sameE hS (fun h => h) (by intro c hc; simp at hc; (try subst hc); (try simp only); omega)
    replace P6 := P6.sameE hS (fun h => h) (by intro c hc; simp at hc; (try subst hc); (try simp only); omega)
    replace P8 := P8.sameE hS (fun h => h) (by intro c hc; simp at hc; (try subst hc); (try simp only); omega)
    replace P4 : Blk w38 (g0 + 1) 27 (meC t (c + 1) (min lo v) (max hi v) u) := hI.olds' 1 (List.mem_range.2 (show 1 < 3 by decide)) 0 rfl
    replace EE := hide (show Ext _ _ from hTT)
    clear hS hz0 hTT hI P2_lt P4_lt P6_lt P8_lt
    generalize hF : putE _ _ _ _ _ _ _ = FF
    have hF2 : FF = { tmps := #[.agg X, .int .i64 v, .pointer (some ⟨g0, 0, none⟩), undef, .pointer (some ⟨g0 + 1, 0, none⟩), .bool true, .pointer (some ⟨g6, 0, none⟩), .bool true, .pointer (some ⟨g8, 0, none⟩), .pointer (some ⟨g0, 1, none⟩), .int .i64 c, .bool false, undef, .tuple #[.agg (wCe u), .bool true], .pointer (some ⟨g0, 4, none⟩), .agg (wCe z), .int .i64 v, .agg (wCe v), .tuple #[.agg (wCe u), .bool true], .agg (wCe u), .bool true, .pointer (some ⟨g0, 0, none⟩), .int .i64 t, .pointer (some ⟨g0, 1, none⟩), .int .i64 c, .int .i64 (c + 1), .pointer (some ⟨g0, 2, none⟩), .int .i64 lo, .int .i64 v, .int .i64 (min lo v), .pointer (some ⟨g0, 3, none⟩), .int .i64 hi, .int .i64 v, .int .i64 (max hi v), .agg (wCe u), .agg (meC t (c + 1) (min lo v) (max hi v) u), .agg (meC t (c + 1) (min lo v) (max hi v) u), .bool true, .bool false, undef, .agg (meC t (c + 1) (min lo v) (max hi v) u)], defers := [] } := by subst hF; kernel_rfl
    clear hF
    subst hF2
    go_wp2_with fail
    exact bodyPost_ret (res2 (p := 4) (u := 5) (ty := 27) rfl _ _ _ 27 (meC t (c + 1) (min lo v) (max hi v) u) _ rfl P4 uMean rfl iMean) rfl ⟨by kernel_rfl, EE.out⟩
set_option maxHeartbeats 3200000 in
set_option maxRecDepth 100000 in
theorem p_end0 (X S : Array Value) (t c lo hi : Int) (hX : MeX X t c lo hi S) (sS : S.size = 5) (oS : S.all (·.oneCell') = true) (d0 : (c == 0) = true) (W : World) : Calls Try.prog 52 #[.agg X] W (CoGet [] W) := by
 have P1 := Blk.new W 27 X
 have EE := hide (ext_alloc W (.cells X 27))
 obtain ⟨W1, hW1⟩ : ∃ W1, (W.alloc (.cells X 27)) = W1 := ⟨_, rfl⟩
 obtain ⟨g0, hg⟩ : ∃ g, W.heap.size = g := ⟨_, rfl⟩
 rw [hW1] at P1 EE
 rw [hg] at P1
 have P1_lo : W.heap.size ≤ g0 := by omega
 have HW := hide hW1
 have Hg := hide hg
 clear hW1 hg
 go_enter Try.func52, Try.ntmps52
 go_upto_region 1 with fail
 rw [HW.out, Hg.out]
 clear HW Hg
 have cq1_0 := fun d os => (((P1).ext (ext_regrown W1 d os)).cell 1).trans (hX.x1)
 refine wp_region_reads ?_
 repeat (first | go_big_quiet_step (fail) | quiet_step (fail))
 refine wpQuiet_nil ?_
 intro _ hw'
 obtain ⟨⟨dq, osq⟩, hw''⟩ := hw'
 subst hw''
 replace P1 := (P1).ext (ext_regrown W1 dq osq)
 replace EE := hide (EE.out.trans (ext_regrown W1 dq osq))
 obtain ⟨w2, hzq1⟩ : ∃ w, grow (redrawn W1 dq) osq = w := ⟨_, rfl⟩
 rw [hzq1] at EE P1 ⊢
 clear hzq1 cq1_0
 go_wp2_with fail
 go_ret
 exact ⟨none, 0, rfl, OwnC.nil_ _ _, EE.out⟩
set_option maxHeartbeats 3200000 in
set_option maxRecDepth 100000 in
theorem p_endYe (X S : Array Value) (t c lo hi : Int) (hX : MeX X t c lo hi S) (q : Int) (sS : S.size = 5) (oS : S.all (·.oneCell') = true) (d0 : (c == 0) = false) (ic : I64 c) (iq : I64 q) (ka : Hid (∀ w, Calls Try.prog 67 #[.agg X] w (Ret (.int .i64 q) w))) (W : World) : Calls Try.prog 52 #[.agg X] W (CoGet [(c, q)] W) := by
 have P1 := Blk.new W 27 X
 have EE := hide (ext_alloc W (.cells X 27))
 obtain ⟨W1, hW1⟩ : ∃ W1, (W.alloc (.cells X 27)) = W1 := ⟨_, rfl⟩
 obtain ⟨g0, hg⟩ : ∃ g, W.heap.size = g := ⟨_, rfl⟩
 rw [hW1] at P1 EE
 rw [hg] at P1
 have P1_lo : W.heap.size ≤ g0 := by omega
 have HW := hide hW1
 have Hg := hide hg
 clear hW1 hg
 go_enter Try.func52, Try.ntmps52
 go_upto_region 1 with fail
 rw [HW.out, Hg.out]
 clear HW Hg
 have cq1_0 := fun d os => (((P1).ext (ext_regrown W1 d os)).cell 1).trans (hX.x1)
 refine wp_region_reads ?_
 repeat (first | go_big_quiet_step (fail) | quiet_step (fail))
 refine wpQuiet_nil ?_
 intro _ hw'
 obtain ⟨⟨dq, osq⟩, hw''⟩ := hw'
 subst hw''
 replace P1 := (P1).ext (ext_regrown W1 dq osq)
 replace EE := hide (EE.out.trans (ext_regrown W1 dq osq))
 obtain ⟨w2, hzq1⟩ : ∃ w, grow (redrawn W1 dq) osq = w := ⟨_, rfl⟩
 rw [hzq1] at EE P1 ⊢
 clear hzq1 cq1_0
 go_upto_region 3 with fail
 have P1_lt := P1.lt
 refine wp_ev [.q, .q, .q, .q, .q, .ev 0, .q] [0, 0, 0, 0, 0, 0, 1] (fun R => [.pointer (some ⟨g0, 1, none⟩), .int .i64 c, .agg X, .int .i64 q, .agg (coR c q), undef, (R 0)]) (fun _ => (.cells #[] 0 (0, 0))) (fun R _ => (.cells #[] 0 (0, 0))) (fun _ => 0) (CS W [(c, q)]) (fun _ => False) (by kernel_rfl) (by kernel_rfl) (by kernel_rfl) (by kernel_rfl) rfl (fun _ => rfl) (fun _ h => h.elim) (fun _ _ h => h) (by simp) (by simp) (fun R R' => ⟨fun _ => rfl, fun _ => rfl, fun _ => rfl, fun _ => rfl, fun _ => rfl, fun _ => rfl, fun h => by simp only [h 0 (by decide)], trivial⟩) (fun _ _ _ _ => rfl) cs_below ⟨EE.out.trans (ext_drew _), fun h => absurd h (by decide)⟩ ?ops9 ?end9
 case ops9 =>
   refine ⟨?_, ?_, ?_, ?_, ?_, ?_, ?_, trivial⟩
   · refine er_q ?vn3 ?hn3 ?kn3 ?gn3 ?_
     case hn3 => exact rfl
     case vn3 => exact (fun R => .pointer (some ⟨g0, 1, none⟩))
     case kn3 => exact (fun R => rfl)
     case gn3 => exact gd_none rfl
     intro R s w' hT hs hw ha
     go_simp
   · refine er_q ?vn4 ?hn4 ?kn4 ?gn4 ?_
     case hn4 => exact rfl
     case vn4 => exact (fun R => .int .i64 c)
     case kn4 => exact (fun R => rfl)
     case gn4 => exact gd_none rfl
     intro R s w' hT hs hw ha
     have cc := ((show Blk w' g0 _ X from P1.sameE hw (fun h => h) (by simp)).cell 1).trans (hX.x1)
     go_simp
   · refine er_q ?vn5 ?hn5 ?kn5 ?gn5 ?_
     case hn5 => exact rfl
     case vn5 => exact (fun R => .agg X)
     case kn5 => exact (fun R => rfl)
     case gn5 => exact gd_none rfl
     intro R s w' hT hs hw ha
     have L := ld_all (P1.sameE hw (fun h => h) (by simp)) uMean rfl iMean hX.s
     generalize hA : putE _ _ _ _ _ _ _ = AA
     refine q_load rfl ?_ L
     subst hA
     kernel_rfl
   · refine er_q ?vn6 ?hn6 ?kn6 ?gn6 ?_
     case hn6 => exact rfl
     case vn6 => exact (fun R => .int .i64 q)
     case kn6 => exact (fun R => rfl)
     case gn6 => exact gd_none rfl
     intro R s w' hT hs hw ha
     go_simp
     exact ka.out w'
   · refine er_q ?vn7 ?hn7 ?kn7 ?gn7 ?_
     case hn7 => exact rfl
     case vn7 => exact (fun R => .agg (coR c q))
     case kn7 => exact (fun R => rfl)
     case gn7 => exact gd_none rfl
     intro R s w' hT hs hw ha
     generalize hA : putE _ _ _ _ _ _ _ = AA
     refine q_buildM (vs := #[(0, .int .i64 c), (1, .int .i64 q)]) rfl ?_ (b_co c q)
     subst hA
     kernel_rfl
   · refine er_ev (m := 0) ?hn8 ?gn8 ?_
     case hn8 => exact rfl
     case gn8 => exact gd_none rfl
     intro R w' hT hw
     generalize hA : putE _ _ _ _ _ _ _ = AA
     refine ev_co1 c q rfl ?_ (cs_one hT ic iq)
     subst hA
     kernel_rfl
   · refine er_q ?vn9 ?hn9 ?kn9 ?gn9 ?_
     case hn9 => exact rfl
     case vn9 => exact (fun R => (R 0))
     case kn9 => exact (fun R => rfl)
     case gn9 => exact gd_none rfl
     intro R s w' hT hs hw ha
     go_simp
 case end9 =>
  intro sI R G w10 hI
  have hS := hI.same
  have hTT := hI.holds
  have hz0 := EE.out.size
  have hs0 : 0 < sI := (hI.stage 5 (show 5 < 7 by decide) 0 rfl).1 (List.mem_range.2 (show 5 < 7 by decide))
  obtain ⟨A1, k1, e1, O1⟩ := hTT.2 hs0
  replace P1 := P1.sameE hS (fun h => h) (by simp)
  replace EE := hide hTT.1
  clear hS hz0 hTT hI P1_lt
  generalize hF : putE _ _ _ _ _ _ _ = FF
  have hF2 : FF = { tmps := #[.agg X, .pointer (some ⟨g0, 0, none⟩), (R 0), .pointer (some ⟨g0, 1, none⟩), .int .i64 c, .bool false, .pointer (some ⟨g0, 1, none⟩), .int .i64 c, .agg X, .int .i64 q, .agg (coR c q), (R 0)], defers := [] } := by subst hF; kernel_rfl
  clear hF
  subst hF2
  (try simp only [e1])
  have O1 := hide O1
  go_wp2_with fail
  go_ret
  exact ⟨A1, k1, rfl, O1.out, EE.out⟩
end
section
open Go Go.RowKit Go.Sort
attribute [local go_sem] qUpon eUpon putE slE
def sgN : Array Value := #[.func (.func 62) #[] #[], .func (.func 55) #[] #[], .func (.func 52) #[] #[]]
theorem uSgn : Try.prog.underlying 86 = some (.struct (Try.prog.fieldsOf 86)) := by kernel_rfl
theorem iSgn : (Try.prog.info? 86).map (·.size) = some 3 := by kernel_rfl
theorem p_means (W : World) : Calls Try.prog 42 #[] W (Ret (.agg sgN) W) := by
 go_enter Try.func42, Try.ntmps42
 go_wp2_with fail
 exact bodyPost_ret (results_cell_row (p := 0) (ty := 86) rfl _ _ _ 86 sgN (0, 0) _ rfl (Blk.new _ _ _) uSgn rfl iSgn) rfl ⟨rfl, ext_alloc _ _⟩
set_option maxHeartbeats 3200000 in
set_option maxRecDepth 100000 in
theorem p_segY (X S : Array Value) (t c lo hi : Int) (hX : MeX X t c lo hi S) (Y : Array Value) (v : Int) (sY : Y.size = 9) (oY : Y.all (·.oneCell') = true) (kx : Hid (∀ w, Calls Try.prog 62 #[.agg X, .int .i64 v] w (Ret (.tuple #[.agg Y, .bool true]) w))) (W : World) : Calls Try.prog 51 #[.agg sgN, .agg X, .int .i64 v] W (CoPair Y [] W) := by
 have he1 : ∀ a w, (callFunc 62 a).run Try.prog w = .ok (.enter 62 a) w := fun a w => by go_simp
 have P3 := ((Blk.new W 86 sgN).alloc (.cells X 27)).alloc (.cells z9m 27)
 have P4 := (Blk.new (W.alloc (.cells sgN 86)) 27 X).alloc (.cells z9m 27)
 rw [alloc_size] at P4
 have P6 := Blk.new ((W.alloc (.cells sgN 86)).alloc (.cells X 27)) 27 z9m
 simp only [alloc_size] at P6
 have EE := hide (((ext_alloc W (.cells sgN 86)).trans (ext_alloc _ (.cells X 27))).trans (ext_alloc _ (.cells z9m 27)))
 obtain ⟨W1, hW1⟩ : ∃ W1, (((W.alloc (.cells sgN 86)).alloc (.cells X 27)).alloc (.cells z9m 27)) = W1 := ⟨_, rfl⟩
 obtain ⟨g0, hg⟩ : ∃ g, W.heap.size = g := ⟨_, rfl⟩
 rw [hW1] at P3 P4 P6 EE
 rw [hg] at P3 P4 P6
 have P3_lo : W.heap.size ≤ g0 := by omega
 have P4_lo : W.heap.size ≤ g0 + 1 := by omega
 have P6_lo : W.heap.size ≤ g0 + 1 + 1 := by omega
 have HW := hide hW1
 have Hg := hide hg
 clear hW1 hg
 go_enter Try.func51, Try.ntmps51
 go_upto_region 1 with fail
 unfold z9m at HW
 rw [HW.out, Hg.out]
 clear HW Hg
 have P3_lt := P3.lt
 have P4_lt := P4.lt
 have P6_lt := P6.lt
 refine wp_evs [.q, .q, .q, .q, .q, .q, .q, .q, .al, .st 8, .q] [0, 0, 0, 0, 0, 0, 0, 0, 0, 0, 0] (fun R => [.pointer (some ⟨g0, 0, none⟩), .func (.func 62) #[] #[], .agg X, .int .i64 v, .tuple #[.agg Y, .bool true], .tuple #[.agg Y, .bool true], .agg Y, .bool true, undef, undef, .bool true]) (fun _ => (.cells z9m 27 (0, 0))) (fun R _ => (.cells Y 27 (0, 0))) (fun _ => 0) (XE W) (fun _ => False) (by kernel_rfl) (by kernel_rfl) (by kernel_rfl) rfl (fun _ => rfl) (fun _ h => h.elim) (fun _ _ h => h) (by simp) (by simp) (fun R R' => ⟨fun _ => rfl, fun _ => rfl, fun _ => rfl, fun _ => rfl, fun _ => rfl, fun _ => rfl, fun _ => rfl, fun _ => rfl, fun _ => rfl, fun _ => rfl, fun _ => rfl, trivial⟩) (fun _ _ _ _ => rfl) xe_below EE.out ?ops11 ?end11
 case ops11 =>
   refine ⟨?_, ?_, ?_, ?_, ?_, ?_, ?_, ?_, ?_, ?_, ?_, trivial⟩
   · refine er_q ?vn1 ?hn1 ?kn1 ?gn1 ?_
     case hn1 => exact rfl
     case vn1 => exact (fun R => .pointer (some ⟨g0, 0, none⟩))
     case kn1 => exact (fun R => rfl)
     case gn1 => exact gd_none rfl
     intro R s w' hT hs hw ha
     go_simp
   · refine er_q ?vn2 ?hn2 ?kn2 ?gn2 ?_
     case hn2 => exact rfl
     case vn2 => exact (fun R => .func (.func 62) #[] #[])
     case kn2 => exact (fun R => rfl)
     case gn2 => exact gd_none rfl
     intro R s w' hT hs hw ha
     have cc := ((show Blk w' g0 _ sgN from P3.sameE hw (fun h => h) (by simp)).cell 0).trans (show sgN[0]? = some (.func (.func 62) #[] #[]) from rfl)
     go_simp
   · refine er_q ?vn3 ?hn3 ?kn3 ?gn3 ?_
     case hn3 => exact rfl
     case vn3 => exact (fun R => .agg X)
     case kn3 => exact (fun R => rfl)
     case gn3 => exact gd_none rfl
     intro R s w' hT hs hw ha
     have L := ld_all (P4.sameE hw (fun h => h) (by simp)) uMean rfl iMean hX.s
     generalize hA : putE _ _ _ _ _ _ _ = AA
     refine q_load rfl ?_ L
     subst hA
     kernel_rfl
   · refine er_q ?vn4 ?hn4 ?kn4 ?gn4 ?_
     case hn4 => exact rfl
     case vn4 => exact (fun R => .int .i64 v)
     case kn4 => exact (fun R => rfl)
     case gn4 => exact gd_none rfl
     intro R s w' hT hs hw ha
     go_simp
   · refine er_q ?vn5 ?hn5 ?kn5 ?gn5 ?_
     case hn5 => exact rfl
     case vn5 => exact (fun R => .tuple #[.agg Y, .bool true])
     case kn5 => exact (fun R => rfl)
     case gn5 => exact gd_none rfl
     intro R s w' hT hs hw ha
     go_simp
     exact kx.out w'
   · refine er_q ?vn6 ?hn6 ?kn6 ?gn6 ?_
     case hn6 => exact rfl
     case vn6 => exact (fun R => .tuple #[.agg Y, .bool true])
     case kn6 => exact (fun R => rfl)
     case gn6 => exact gd_none rfl
     intro R s w' hT hs hw ha
     go_simp
   · refine er_q ?vn7 ?hn7 ?kn7 ?gn7 ?_
     case hn7 => exact rfl
     case vn7 => exact (fun R => .agg Y)
     case kn7 => exact (fun R => rfl)
     case gn7 => exact gd_none rfl
     intro R s w' hT hs hw ha
     go_simp
   · refine er_q ?vn8 ?hn8 ?kn8 ?gn8 ?_
     case hn8 => exact rfl
     case vn8 => exact (fun R => .bool true)
     case kn8 => exact (fun R => rfl)
     case gn8 => exact gd_none rfl
     intro R s w' hT hs hw ha
     go_simp
   · refine er_al ?zn9 ?hn9 ?kn9 ?gn9 ?_
     case zn9 => exact (.cells z9m 27 (0, 0))
     case hn9 => exact rfl
     case kn9 => exact rfl
     case gn9 => exact gd_none rfl
     intro ρ w'
     go_simp
     exact ⟨rfl, rfl⟩
   · refine er_st (j := 8) (Ty := ?Tn10) (p := ?pn10) (x := ?xn10) ?fn10 ?zn10 ?vn10 ?hn10 ?on10 ?kn10 ?ln10 ?gn10 ?en10 ?_
     case hn10 => exact rfl
     case on10 => exact rfl
     case fn10 => exact (fun R => (.cells Y 27 (0, 0)))
     case zn10 => exact (.cells z9m 27 (0, 0))
     case vn10 => exact (fun R => .agg Y)
     case kn10 => exact (fun R => rfl)
     case ln10 => exact rfl
     case gn10 => exact gd_none rfl
     case en10 =>
       intro R
       kernel_rfl
     intro R s ρ w g hT hs hp hx hg hz
     exact ⟨store_row rfl hp hx hz iMean (sY) (oY), fun w1 hF => ext_filled hT hF (Nat.le_trans EE.out.size hg)⟩
   · refine er_q ?vn11 ?hn11 ?kn11 ?gn11 ?_
     case hn11 => exact rfl
     case vn11 => exact (fun R => .bool true)
     case kn11 => exact (fun R => rfl)
     case gn11 => exact gd_none rfl
     intro R s w' hT hs hw ha
     go_simp
 case end11 =>
  intro sI R G w12 hI
  have hS := hI.same
  have hTT := hI.holds
  have hz0 := EE.out.size
  replace P3 := P3.sameE hS (fun h => h) (by simp)
  replace P4 := P4.sameE hS (fun h => h) (by simp)
  replace P6 := P6.sameE hS (fun h => h) (by simp)
  have P8 : Blk w12 (G 8) 27 Y := (hI.fulls 9 (List.mem_range.2 (show 9 < 11 by decide)) 8 rfl).2.2
  have hmP8 := (hI.made 8 (List.mem_range.2 (show 8 < 11 by decide)) rfl).1
  have P8_lo : W.heap.size ≤ G 8 := Nat.le_trans hz0 hmP8
  have ngP3_8 : g0 ≠ G 8 := by omega
  have ngP4_8 : g0 + 1 ≠ G 8 := by omega
  have ngP6_8 : g0 + 1 + 1 ≠ G 8 := by omega
  replace EE := hide (show Ext _ _ from hTT)
  clear hS hz0 hTT hI P3_lt P4_lt P6_lt
  generalize hF : putE _ _ _ _ _ _ _ = FF
  have hF2 : FF = { tmps := #[.agg sgN, .agg X, .int .i64 v, .pointer (some ⟨g0, 0, none⟩), .pointer (some ⟨g0 + 1, 0, none⟩), undef, .pointer (some ⟨g0 + 1 + 1, 0, none⟩), .slice none 0 0, .pointer (some ⟨G 8, 0, none⟩), .bool true, .tuple #[.agg Y, .bool true], .pointer (some ⟨g0, 0, none⟩), .func (.func 62) #[] #[], .agg X, .int .i64 v, .tuple #[.agg Y, .bool true], .agg Y, .bool true, undef, undef, undef, undef, undef, undef, undef, undef, undef, undef, undef], defers := [] } := by subst hF; kernel_rfl
  clear hF
  subst hF2
  generalize G 8 = g8 at *
  go_upto_region 2 with fail
  refine wp_region_reads ?_
  repeat (first | go_big_quiet_step (fail) | quiet_step (fail))
  refine wpQuiet_nil ?_
  intro _ hw'
  obtain ⟨⟨dq, osq⟩, hw''⟩ := hw'
  subst hw''
  replace P3 := (P3).ext (ext_regrown w12 dq osq)
  replace P4 := (P4).ext (ext_regrown w12 dq osq)
  replace P6 := (P6).ext (ext_regrown w12 dq osq)
  replace P8 := (P8).ext (ext_regrown w12 dq osq)
  replace EE := hide (EE.out.trans (ext_regrown w12 dq osq))
  obtain ⟨w14, hzq13⟩ : ∃ w, grow (redrawn w12 dq) osq = w := ⟨_, rfl⟩
  rw [hzq13] at EE P3 P4 P6 P8 ⊢
  clear hzq13
  go_upto_region 3 with fail
  have P3_lt := P3.lt
  have P4_lt := P4.lt
  have P6_lt := P6.lt
  have P8_lt := P8.lt
  refine wp_evs [.q, .so 0, .q] [0, 0, 0] (fun R => [.agg Y, undef, .slice none 0 0]) (fun _ => (.cells #[] 0 (0, 0))) (fun R _ => (.cells Y 27 (0, 0))) (fun _ => g0 + 1 + 1) (XE W) (fun _ => False) (by kernel_rfl) (by kernel_rfl) (by kernel_rfl) rfl (fun _ => rfl) (fun _ h => h.elim) (fun _ _ h => h) (by intro c hc; simp at hc; (try subst hc); (try simp only); omega) (by intro c c' h1 h2 _; simp at h1 h2; omega) (fun R R' => ⟨fun _ => rfl, fun _ => rfl, fun _ => rfl, trivial⟩) (fun _ _ _ _ => rfl) xe_below EE.out ?ops17 ?end17
  case ops17 =>
    refine ⟨?_, ?_, ?_, trivial⟩
    · refine er_q ?vn15 ?hn15 ?kn15 ?gn15 ?_
      case hn15 => exact rfl
      case vn15 => exact (fun R => .agg Y)
      case kn15 => exact (fun R => rfl)
      case gn15 => exact gd_none rfl
      intro R s w' hT hs hw ha
      have L := ld_all (P8.sameE hw (fun h => h) (by intro c hc; simp at hc; (try subst hc); (try simp only); omega)) uMean rfl iMean sY
      generalize hA : putE _ _ _ _ _ _ _ = AA
      refine q_load rfl ?_ L
      subst hA
      kernel_rfl
    · refine er_so (c := 0) (Ty := ?Tn16) (p := ?pn16) (x := ?xn16) (g0 + 1 + 1) ?fn16 ?un16 ?vn16 ?hn16 ?on16 ?kn16 ?ln16 ?gn16 ?dn16 ?en16 ?_
      case hn16 => exact rfl
      case on16 => exact rfl
      case fn16 => exact (fun R => (.cells Y 27 (0, 0)))
      case un16 => exact (fun R => .pointer (some ⟨g0 + 1 + 1, 0, none⟩))
      case vn16 => exact (fun R => .agg Y)
      case kn16 => exact (fun R => rfl)
      case ln16 => exact rfl
      case gn16 => exact gd_none rfl
      case dn16 =>
        intro R
        kernel_rfl
      case en16 =>
        intro R
        kernel_rfl
      intro R s ρ w hT hs hp hx hz
      refine ⟨store_rowN (g := (g0 + 1 + 1)) rfl hp hx (hz.trans P6) iMean (rfl) (sY) (oY), fun w1 hF => ext_filled hT hF P6_lo⟩
    · refine er_q ?vn17 ?hn17 ?kn17 ?gn17 ?_
      case hn17 => exact rfl
      case vn17 => exact (fun R => .slice none 0 0)
      case kn17 => exact (fun R => rfl)
      case gn17 => exact gd_none rfl
      intro R s w' hT hs hw ha
      go_simp
  case end17 =>
   intro sI R G w18 hI
   have hS := hI.same
   have hTT := hI.holds
   have hz0 := EE.out.size
   replace P3 := P3.sameE hS (fun h => h) (by intro c hc; simp at hc; (try subst hc); (try simp only); omega)
   replace P4 := P4.sameE hS (fun h => h) (by intro c hc; simp at hc; (try subst hc); (try simp only); omega)
   replace P8 := P8.sameE hS (fun h => h) (by intro c hc; simp at hc; (try subst hc); (try simp only); omega)
   replace P6 : Blk w18 (g0 + 1 + 1) 27 Y := hI.olds' 1 (List.mem_range.2 (show 1 < 3 by decide)) 0 rfl
   replace EE := hide (show Ext _ _ from hTT)
   clear hS hz0 hTT hI P3_lt P4_lt P6_lt P8_lt
   generalize hF : putE _ _ _ _ _ _ _ = FF
   have hF2 : FF = { tmps := #[.agg sgN, .agg X, .int .i64 v, .pointer (some ⟨g0, 0, none⟩), .pointer (some ⟨g0 + 1, 0, none⟩), undef, .pointer (some ⟨g0 + 1 + 1, 0, none⟩), .slice none 0 0, .pointer (some ⟨g8, 0, none⟩), .bool true, .tuple #[.agg Y, .bool true], .pointer (some ⟨g0, 0, none⟩), .func (.func 62) #[] #[], .agg X, .int .i64 v, .tuple #[.agg Y, .bool true], .agg Y, .bool true, .bool true, .agg Y, undef, undef, undef, undef, undef, undef, undef, undef, undef], defers := [] } := by subst hF; kernel_rfl
   clear hF
   subst hF2
   go_wp2_with fail
   exact bodyPost_ret (res2 (p := 6) (u := 7) (ty := 27) rfl _ _ _ 27 Y _ rfl P6 uMean rfl (by rw [sY]; exact iMean)) rfl ⟨none, 0, by kernel_rfl, OwnC.nil_ _ _, EE.out⟩
set_option maxHeartbeats 3200000 in
set_option maxRecDepth 100000 in
theorem p_segN (X S : Array Value) (t c lo hi : Int) (hX : MeX X t c lo hi S) (Y : Array Value) (v : Int) (l : List (Int × Int)) (sY : Y.size = 9) (oY : Y.all (·.oneCell') = true) (kx : Hid (∀ w, Calls Try.prog 62 #[.agg X, .int .i64 v] w (Ret (.tuple #[.agg z9m, .bool false]) w))) (kb : Hid (∀ w, Calls Try.prog 55 #[.agg X, .int .i64 v] w (Ret (.agg Y) w))) (ke : Hid (∀ w, Calls Try.prog 52 #[.agg X] w (CoGet l w))) (W : World) : Calls Try.prog 51 #[.agg sgN, .agg X, .int .i64 v] W (CoPair Y l W) := by
 have he1 : ∀ a w, (callFunc 62 a).run Try.prog w = .ok (.enter 62 a) w := fun a w => by go_simp
 have he2 : ∀ a w, (callFunc 55 a).run Try.prog w = .ok (.enter 55 a) w := fun a w => by go_simp
 have he3 : ∀ a w, (callFunc 52 a).run Try.prog w = .ok (.enter 52 a) w := fun a w => by go_simp
 have P3 := ((Blk.new W 86 sgN).alloc (.cells X 27)).alloc (.cells z9m 27)
 have P4 := (Blk.new (W.alloc (.cells sgN 86)) 27 X).alloc (.cells z9m 27)
 rw [alloc_size] at P4
 have P6 := Blk.new ((W.alloc (.cells sgN 86)).alloc (.cells X 27)) 27 z9m
 simp only [alloc_size] at P6
 have EE := hide (((ext_alloc W (.cells sgN 86)).trans (ext_alloc _ (.cells X 27))).trans (ext_alloc _ (.cells z9m 27)))
 obtain ⟨W1, hW1⟩ : ∃ W1, (((W.alloc (.cells sgN 86)).alloc (.cells X 27)).alloc (.cells z9m 27)) = W1 := ⟨_, rfl⟩
 obtain ⟨g0, hg⟩ : ∃ g, W.heap.size = g := ⟨_, rfl⟩
 rw [hW1] at P3 P4 P6 EE
 rw [hg] at P3 P4 P6
 have P3_lo : W.heap.size ≤ g0 := by omega
 have P4_lo : W.heap.size ≤ g0 + 1 := by omega
 have P6_lo : W.heap.size ≤ g0 + 1 + 1 := by omega
 have HW := hide hW1
 have Hg := hide hg
 clear hW1 hg
 go_enter Try.func51, Try.ntmps51
 go_upto_region 1 with fail
 unfold z9m at HW
 rw [HW.out, Hg.out]
 clear HW Hg
 have P3_lt := P3.lt
 have P4_lt := P4.lt
 have P6_lt := P6.lt
 refine wp_evs [.q, .q, .q, .q, .q, .q, .q, .q, .al, .st 8, .q] [0, 0, 0, 0, 0, 0, 0, 0, 0, 0, 0] (fun R => [.pointer (some ⟨g0, 0, none⟩), .func (.func 62) #[] #[], .agg X, .int .i64 v, .tuple #[.agg z9m, .bool false], .tuple #[.agg z9m, .bool false], .agg z9m, .bool false, undef, undef, .bool false]) (fun _ => (.cells z9m 27 (0, 0))) (fun R _ => (.cells z9m 27 (0, 0))) (fun _ => 0) (XE W) (fun _ => False) (by kernel_rfl) (by kernel_rfl) (by kernel_rfl) rfl (fun _ => rfl) (fun _ h => h.elim) (fun _ _ h => h) (by simp) (by simp) (fun R R' => ⟨fun _ => rfl, fun _ => rfl, fun _ => rfl, fun _ => rfl, fun _ => rfl, fun _ => rfl, fun _ => rfl, fun _ => rfl, fun _ => rfl, fun _ => rfl, fun _ => rfl, trivial⟩) (fun _ _ _ _ => rfl) xe_below EE.out ?ops11 ?end11
 case ops11 =>
   refine ⟨?_, ?_, ?_, ?_, ?_, ?_, ?_, ?_, ?_, ?_, ?_, trivial⟩
   · refine er_q ?vn1 ?hn1 ?kn1 ?gn1 ?_
     case hn1 => exact rfl
     case vn1 => exact (fun R => .pointer (some ⟨g0, 0, none⟩))
     case kn1 => exact (fun R => rfl)
     case gn1 => exact gd_none rfl
     intro R s w' hT hs hw ha
     go_simp
   · refine er_q ?vn2 ?hn2 ?kn2 ?gn2 ?_
     case hn2 => exact rfl
     case vn2 => exact (fun R => .func (.func 62) #[] #[])
     case kn2 => exact (fun R => rfl)
     case gn2 => exact gd_none rfl
     intro R s w' hT hs hw ha
     have cc := ((show Blk w' g0 _ sgN from P3.sameE hw (fun h => h) (by simp)).cell 0).trans (show sgN[0]? = some (.func (.func 62) #[] #[]) from rfl)
     go_simp
   · refine er_q ?vn3 ?hn3 ?kn3 ?gn3 ?_
     case hn3 => exact rfl
     case vn3 => exact (fun R => .agg X)
     case kn3 => exact (fun R => rfl)
     case gn3 => exact gd_none rfl
     intro R s w' hT hs hw ha
     have L := ld_all (P4.sameE hw (fun h => h) (by simp)) uMean rfl iMean hX.s
     generalize hA : putE _ _ _ _ _ _ _ = AA
     refine q_load rfl ?_ L
     subst hA
     kernel_rfl
   · refine er_q ?vn4 ?hn4 ?kn4 ?gn4 ?_
     case hn4 => exact rfl
     case vn4 => exact (fun R => .int .i64 v)
     case kn4 => exact (fun R => rfl)
     case gn4 => exact gd_none rfl
     intro R s w' hT hs hw ha
     go_simp
   · refine er_q ?vn5 ?hn5 ?kn5 ?gn5 ?_
     case hn5 => exact rfl
     case vn5 => exact (fun R => .tuple #[.agg z9m, .bool false])
     case kn5 => exact (fun R => rfl)
     case gn5 => exact gd_none rfl
     intro R s w' hT hs hw ha
     go_simp
     exact kx.out w'
   · refine er_q ?vn6 ?hn6 ?kn6 ?gn6 ?_
     case hn6 => exact rfl
     case vn6 => exact (fun R => .tuple #[.agg z9m, .bool false])
     case kn6 => exact (fun R => rfl)
     case gn6 => exact gd_none rfl
     intro R s w' hT hs hw ha
     go_simp
   · refine er_q ?vn7 ?hn7 ?kn7 ?gn7 ?_
     case hn7 => exact rfl
     case vn7 => exact (fun R => .agg z9m)
     case kn7 => exact (fun R => rfl)
     case gn7 => exact gd_none rfl
     intro R s w' hT hs hw ha
     go_simp
   · refine er_q ?vn8 ?hn8 ?kn8 ?gn8 ?_
     case hn8 => exact rfl
     case vn8 => exact (fun R => .bool false)
     case kn8 => exact (fun R => rfl)
     case gn8 => exact gd_none rfl
     intro R s w' hT hs hw ha
     go_simp
   · refine er_al ?zn9 ?hn9 ?kn9 ?gn9 ?_
     case zn9 => exact (.cells z9m 27 (0, 0))
     case hn9 => exact rfl
     case kn9 => exact rfl
     case gn9 => exact gd_none rfl
     intro ρ w'
     go_simp
     exact ⟨rfl, rfl⟩
   · refine er_st (j := 8) (Ty := ?Tn10) (p := ?pn10) (x := ?xn10) ?fn10 ?zn10 ?vn10 ?hn10 ?on10 ?kn10 ?ln10 ?gn10 ?en10 ?_
     case hn10 => exact rfl
     case on10 => exact rfl
     case fn10 => exact (fun R => (.cells z9m 27 (0, 0)))
     case zn10 => exact (.cells z9m 27 (0, 0))
     case vn10 => exact (fun R => .agg z9m)
     case kn10 => exact (fun R => rfl)
     case ln10 => exact rfl
     case gn10 => exact gd_none rfl
     case en10 =>
       intro R
       kernel_rfl
     intro R s ρ w g hT hs hp hx hg hz
     exact ⟨store_row rfl hp hx hz iMean (rfl) (z9m_one), fun w1 hF => ext_filled hT hF (Nat.le_trans EE.out.size hg)⟩
   · refine er_q ?vn11 ?hn11 ?kn11 ?gn11 ?_
     case hn11 => exact rfl
     case vn11 => exact (fun R => .bool false)
     case kn11 => exact (fun R => rfl)
     case gn11 => exact gd_none rfl
     intro R s w' hT hs hw ha
     go_simp
 case end11 =>
  intro sI R G w12 hI
  have hS := hI.same
  have hTT := hI.holds
  have hz0 := EE.out.size
  replace P3 := P3.sameE hS (fun h => h) (by simp)
  replace P4 := P4.sameE hS (fun h => h) (by simp)
  replace P6 := P6.sameE hS (fun h => h) (by simp)
  have P8 : Blk w12 (G 8) 27 z9m := (hI.fulls 9 (List.mem_range.2 (show 9 < 11 by decide)) 8 rfl).2.2
  have hmP8 := (hI.made 8 (List.mem_range.2 (show 8 < 11 by decide)) rfl).1
  have P8_lo : W.heap.size ≤ G 8 := Nat.le_trans hz0 hmP8
  have ngP3_8 : g0 ≠ G 8 := by omega
  have ngP4_8 : g0 + 1 ≠ G 8 := by omega
  have ngP6_8 : g0 + 1 + 1 ≠ G 8 := by omega
  replace EE := hide (show Ext _ _ from hTT)
  clear hS hz0 hTT hI P3_lt P4_lt P6_lt
  generalize hF : putE _ _ _ _ _ _ _ = FF
  have hF2 : FF = { tmps := #[.agg sgN, .agg X, .int .i64 v, .pointer (some ⟨g0, 0, none⟩), .pointer (some ⟨g0 + 1, 0, none⟩), undef, .pointer (some ⟨g0 + 1 + 1, 0, none⟩), .slice none 0 0, .pointer (some ⟨G 8, 0, none⟩), .bool false, .tuple #[.agg z9m, .bool false], .pointer (some ⟨g0, 0, none⟩), .func (.func 62) #[] #[], .agg X, .int .i64 v, .tuple #[.agg z9m, .bool false], .agg z9m, .bool false, undef, undef, undef, undef, undef, undef, undef, undef, undef, undef, undef], defers := [] } := by subst hF; kernel_rfl
  clear hF
  subst hF2
  generalize G 8 = g8 at *
  go_upto_region 2 with fail
  refine wp_region_reads ?_
  repeat (first | go_big_quiet_step (fail) | quiet_step (fail))
  refine wpQuiet_nil ?_
  intro _ hw'
  obtain ⟨⟨dq, osq⟩, hw''⟩ := hw'
  subst hw''
  replace P3 := (P3).ext (ext_regrown w12 dq osq)
  replace P4 := (P4).ext (ext_regrown w12 dq osq)
  replace P6 := (P6).ext (ext_regrown w12 dq osq)
  replace P8 := (P8).ext (ext_regrown w12 dq osq)
  replace EE := hide (EE.out.trans (ext_regrown w12 dq osq))
  obtain ⟨w14, hzq13⟩ : ∃ w, grow (redrawn w12 dq) osq = w := ⟨_, rfl⟩
  rw [hzq13] at EE P3 P4 P6 P8 ⊢
  clear hzq13
  go_upto_region 4 with fail
  have P3_lt := P3.lt
  have P4_lt := P4.lt
  have P6_lt := P6.lt
  have P8_lt := P8.lt
  refine wp_ev [.q, .q, .q, .q, .q, .q, .q, .q, .ev 0, .so 0, .q] [0, 0, 0, 0, 0, 0, 0, 0, 0, 0, 1] (fun R => [.pointer (some ⟨g0, 1, none⟩), .func (.func 55) #[] #[], .agg X, .int .i64 v, .agg Y, .pointer (some ⟨g0, 2, none⟩), .func (.func 52) #[] #[], .agg X, undef, undef, (R 0)]) (fun _ => (.cells #[] 0 (0, 0))) (fun R _ => (.cells Y 27 (0, 0))) (fun _ => g0 + 1 + 1) (CS W l) (fun _ => False) (by kernel_rfl) (by kernel_rfl) (by kernel_rfl) (by kernel_rfl) rfl (fun _ => rfl) (fun _ h => h.elim) (fun _ _ h => h) (by intro c hc; simp at hc; (try subst hc); (try simp only); omega) (by intro c c' h1 h2 _; simp at h1 h2; omega) (fun R R' => ⟨fun _ => rfl, fun _ => rfl, fun _ => rfl, fun _ => rfl, fun _ => rfl, fun _ => rfl, fun _ => rfl, fun _ => rfl, fun _ => rfl, fun _ => rfl, fun h => by simp only [h 0 (by decide)], trivial⟩) (fun _ _ _ _ => rfl) cs_below ⟨EE.out.trans (ext_drew _), fun h => absurd h (by decide)⟩ ?ops25 ?end25
  case ops25 =>
    refine ⟨?_, ?_, ?_, ?_, ?_, ?_, ?_, ?_, ?_, ?_, ?_, trivial⟩
    · refine er_q ?vn15 ?hn15 ?kn15 ?gn15 ?_
      case hn15 => exact rfl
      case vn15 => exact (fun R => .pointer (some ⟨g0, 1, none⟩))
      case kn15 => exact (fun R => rfl)
      case gn15 => exact gd_none rfl
      intro R s w' hT hs hw ha
      go_simp
    · refine er_q ?vn16 ?hn16 ?kn16 ?gn16 ?_
      case hn16 => exact rfl
      case vn16 => exact (fun R => .func (.func 55) #[] #[])
      case kn16 => exact (fun R => rfl)
      case gn16 => exact gd_none rfl
      intro R s w' hT hs hw ha
      have cc := ((show Blk w' g0 _ sgN from P3.sameE hw (fun h => h) (by intro c hc; simp at hc; (try subst hc); (try simp only); omega)).cell 1).trans (show sgN[1]? = some (.func (.func 55) #[] #[]) from rfl)
      go_simp
    · refine er_q ?vn17 ?hn17 ?kn17 ?gn17 ?_
      case hn17 => exact rfl
      case vn17 => exact (fun R => .agg X)
      case kn17 => exact (fun R => rfl)
      case gn17 => exact gd_none rfl
      intro R s w' hT hs hw ha
      have L := ld_all (P4.sameE hw (fun h => h) (by intro c hc; simp at hc; (try subst hc); (try simp only); omega)) uMean rfl iMean hX.s
      generalize hA : putE _ _ _ _ _ _ _ = AA
      refine q_load rfl ?_ L
      subst hA
      kernel_rfl
    · refine er_q ?vn18 ?hn18 ?kn18 ?gn18 ?_
      case hn18 => exact rfl
      case vn18 => exact (fun R => .int .i64 v)
      case kn18 => exact (fun R => rfl)
      case gn18 => exact gd_none rfl
      intro R s w' hT hs hw ha
      go_simp
    · refine er_q ?vn19 ?hn19 ?kn19 ?gn19 ?_
      case hn19 => exact rfl
      case vn19 => exact (fun R => .agg Y)
      case kn19 => exact (fun R => rfl)
      case gn19 => exact gd_none rfl
      intro R s w' hT hs hw ha
      go_simp
      exact kb.out w'
    · refine er_q ?vn20 ?hn20 ?kn20 ?gn20 ?_
      case hn20 => exact rfl
      case vn20 => exact (fun R => .pointer (some ⟨g0, 2, none⟩))
      case kn20 => exact (fun R => rfl)
      case gn20 => exact gd_none rfl
      intro R s w' hT hs hw ha
      go_simp
    · refine er_q ?vn21 ?hn21 ?kn21 ?gn21 ?_
      case hn21 => exact rfl
      case vn21 => exact (fun R => .func (.func 52) #[] #[])
      case kn21 => exact (fun R => rfl)
      case gn21 => exact gd_none rfl
      intro R s w' hT hs hw ha
      have cc := ((show Blk w' g0 _ sgN from P3.sameE hw (fun h => h) (by intro c hc; simp at hc; (try subst hc); (try simp only); omega)).cell 2).trans (show sgN[2]? = some (.func (.func 52) #[] #[]) from rfl)
      go_simp
    · refine er_q ?vn22 ?hn22 ?kn22 ?gn22 ?_
      case hn22 => exact rfl
      case vn22 => exact (fun R => .agg X)
      case kn22 => exact (fun R => rfl)
      case gn22 => exact gd_none rfl
      intro R s w' hT hs hw ha
      have L := ld_all (P4.sameE hw (fun h => h) (by intro c hc; simp at hc; (try subst hc); (try simp only); omega)) uMean rfl iMean hX.s
      generalize hA : putE _ _ _ _ _ _ _ = AA
      refine q_load rfl ?_ L
      subst hA
      kernel_rfl
    · refine er_ev (m := 0) ?hn23 ?gn23 ?_
      case hn23 => exact rfl
      case gn23 => exact gd_none rfl
      intro R w' hT hw
      go_simp
      refine (ke.out _).mono ?_
      rintro e w2 ⟨A1, k1, rfl, hO, hE⟩
      exact ⟨_, rfl, cs_ev hT hO hE⟩
    · refine er_so (c := 0) (Ty := ?Tn24) (p := ?pn24) (x := ?xn24) (g0 + 1 + 1) ?fn24 ?un24 ?vn24 ?hn24 ?on24 ?kn24 ?ln24 ?gn24 ?dn24 ?en24 ?_
      case hn24 => exact rfl
      case on24 => exact rfl
      case fn24 => exact (fun R => (.cells Y 27 (0, 0)))
      case un24 => exact (fun R => .pointer (some ⟨g0 + 1 + 1, 0, none⟩))
      case vn24 => exact (fun R => .agg Y)
      case kn24 => exact (fun R => rfl)
      case ln24 => exact rfl
      case gn24 => exact gd_none rfl
      case dn24 =>
        intro R
        kernel_rfl
      case en24 =>
        intro R
        kernel_rfl
      intro R s ρ w hT hs hp hx hz
      refine ⟨store_rowN (g := (g0 + 1 + 1)) rfl hp hx (hz.trans P6) iMean (rfl) (sY) (oY), fun w1 hF => cs_filled hT hF P6_lo (hz.trans P6) (by decide)⟩
    · refine er_q ?vn25 ?hn25 ?kn25 ?gn25 ?_
      case hn25 => exact rfl
      case vn25 => exact (fun R => (R 0))
      case kn25 => exact (fun R => rfl)
      case gn25 => exact gd_none rfl
      intro R s w' hT hs hw ha
      go_simp
  case end25 =>
   intro sI R G w26 hI
   have hS := hI.same
   have hTT := hI.holds
   have hz0 := EE.out.size
   have hs0 : 0 < sI := (hI.stage 8 (show 8 < 11 by decide) 0 rfl).1 (List.mem_range.2 (show 8 < 11 by decide))
   obtain ⟨A1, k1, e1, O1⟩ := hTT.2 hs0
   replace P3 := P3.sameE hS (fun h => h) (by intro c hc; simp at hc; (try subst hc); (try simp only); omega)
   replace P4 := P4.sameE hS (fun h => h) (by intro c hc; simp at hc; (try subst hc); (try simp only); omega)
   replace P8 := P8.sameE hS (fun h => h) (by intro c hc; simp at hc; (try subst hc); (try simp only); omega)
   replace P6 : Blk w26 (g0 + 1 + 1) 27 Y := hI.olds' 9 (List.mem_range.2 (show 9 < 11 by decide)) 0 rfl
   replace EE := hide hTT.1
   clear hS hz0 hTT hI P3_lt P4_lt P6_lt P8_lt
   generalize hF : putE _ _ _ _ _ _ _ = FF
   have hF2 : FF = { tmps := #[.agg sgN, .agg X, .int .i64 v, .pointer (some ⟨g0, 0, none⟩), .pointer (some ⟨g0 + 1, 0, none⟩), undef, .pointer (some ⟨g0 + 1 + 1, 0, none⟩), (R 0), .pointer (some ⟨g8, 0, none⟩), .bool false, .tuple #[.agg z9m, .bool false], .pointer (some ⟨g0, 0, none⟩), .func (.func 62) #[] #[], .agg X, .int .i64 v, .tuple #[.agg z9m, .bool false], .agg z9m, .bool false, .bool false, undef, .pointer (some ⟨g0, 1, none⟩), .func (.func 55) #[] #[], .agg X, .int .i64 v, .agg Y, .pointer (some ⟨g0, 2, none⟩), .func (.func 52) #[] #[], .agg X, (R 0)], defers := [] } := by subst hF; kernel_rfl
   clear hF
   subst hF2
   (try simp only [e1])
   have O1 := hide O1
   go_wp2_with fail
   exact bodyPost_ret (res2 (p := 6) (u := 7) (ty := 27) rfl _ _ _ 27 Y _ rfl P6 uMean rfl (by rw [sY]; exact iMean)) rfl ⟨A1, k1, by kernel_rfl, O1.out, EE.out⟩
end
section
open Go Go.RowKit Go.Sort
def stN (eps : Int) : Option Mn → Array Value
 | none => meC eps 0 0 0 0
 | some (n, lo, hi, sm) => meC eps n lo hi sm
def coN (s : Mn) : Int × Int := ((s.1 : Int), s.2.2.2 / (s.1 : Int))
theorem row_N (eps : Int) (s : Option Mn) : ∃ c lo hi z : Int, stN eps s = meC eps c lo hi z := by
 rcases s with _ | ⟨n, lo, hi, sm⟩
 · exact ⟨0, 0, 0, 0, rfl⟩
 · exact ⟨n, lo, hi, sm, rfl⟩
theorem i64_0 : I64 0 := ⟨by omega, by omega⟩
theorem okV_f {eps : Int} {n : Nat} {lo hi sm : Int} (h : OkV eps (some (n, lo, hi, sm))) : F256 sm := by
 have := sum_size h
 unfold F256
 exact Nat.lt_trans this (by decide)
theorem okV_n {eps : Int} {n : Nat} {lo hi sm : Int} (h : OkV eps (some (n, lo, hi, sm))) : I64 (n : Int) ∧ 1 ≤ (n : Int) := by
 obtain ⟨h1, h2, _⟩ := h
 exact ⟨⟨by omega, by omega⟩, by omega⟩
theorem p_avgV {eps : Int} {n : Nat} {lo hi sm : Int} (h : OkV eps (some (n, lo, hi, sm))) (W : World) : Calls Try.prog 67 #[.agg (meC eps n lo hi sm)] W (Ret (.int .i64 (sm / (n : Int))) W) :=
 p_avgM eps n lo hi sm (okV_n h).1 (okV_n h).2 h.2.2.1 h.2.2.2.1 (okV_f h) h.2.2.2.2.1 h.2.2.2.2.2.1 h.2.2.2.2.2.2.1 W
theorem ne_0 {n : Nat} (h : 1 ≤ (n : Int)) : ((n : Int) == 0) = false := by rw [beq_eq_false_iff_ne]; omega
theorem p_endV (eps : Int) (s : Option Mn) (hs : OkV eps s) (W : World) : Calls Try.prog 52 #[.agg (stN eps s)] W (CoGet ((endN s).map coN) W) := by
 rcases s with _ | ⟨n, lo, hi, sm⟩
 · exact p_end0 _ _ eps 0 0 0 (meX_of _ _ _ _ _) (wC_size 0) (wC_onee 0) rfl W
 · exact p_endYe _ _ eps n lo hi (meX_of _ _ _ _ _) (sm / (n : Int)) (wC_size sm) (wC_onee sm) (ne_0 (okV_n hs).2) (okV_n hs).1 (mean_i64 hs) (hide fun w => p_avgV hs w) W
theorem more_b {eps : Int} {n : Nat} {lo hi sm v : Int} (h : OkV eps (some (n, lo, hi, sm))) (hv : I64 v) (hc : n < 1073741824) : I64 ((n : Int) + 1) ∧ 1 ≤ (n : Int) + 1 ∧ I64 (min lo v) ∧ I64 (max hi v) ∧ F256 (sm + v) ∧ min lo v ≤ max hi v ∧ ((n : Int) + 1 - 1) * min lo v + max hi v ≤ sm + v ∧ sm + v ≤ ((n : Int) + 1 - 1) * max hi v + min lo v := by
 have hs := sum_size h
 obtain ⟨h1, h2, ⟨h3, h3'⟩, ⟨h4, h4'⟩, h5, h6, h7, h8⟩ := h
 have := more_sum (v := v) h1 h5 h6 h7
 obtain ⟨v1, v2⟩ := hv
 refine ⟨⟨by omega, by omega⟩, by omega, ⟨by omega, by omega⟩, ⟨by omega, by omega⟩, ?_, by omega, this.1, this.2⟩
 unfold F256
 omega
set_option maxHeartbeats 1600000 in
theorem p_segS (eps : Int) (s : Option Mn) (v : Int) (he : Tol eps) (hs : OkV eps s) (hc : cntN s < 1073741824) (hv : I64 v) (W : World) :
   Calls Try.prog 51 #[.agg sgN, .agg (stN eps s), .int .i64 v] W (CoPair (stN eps (stepN eps s v).1) ((stepN eps s v).2.map coN) W) := by
 have ke := hide fun w => p_endV eps s hs w
 rcases s with _ | ⟨n, lo, hi, sm⟩
 · exact p_segN _ _ eps 0 0 0 (meX_of _ _ _ _ _) (meC eps 1 v v v) v [] rfl (meC_one _ _ _ _ _) (hide fun w => p_ext0e _ eps 0 0 0 0 (meX_of _ _ _ _ _) v rfl w) (hide fun w => p_beginN _ _ eps 0 0 0 v (meX_of _ _ _ _ _) hv w) ke W
 · have hc : n < 1073741824 := hc
   obtain ⟨b1, b2, b3, b4, b5, b6, b7, b8⟩ := more_b hs hv hc
   have k1 := hide fun w => pw_ofi hv w
   have k2 := hide fun w => pw_add (okV_f hs) (f64 hv) rfl b5 w
   have kn := fun w => p_neaM eps ((n : Int) + 1) (min lo v) (max hi v) (sm + v) he b1 b2 b3 b4 b5 b6 b7 b8 w
   rw [← Bool.decide_and] at kn
   have wr : IntKind.i64.wrap ((n : Int) + 1) = (n : Int) + 1 := by rw [IntKind.wrap_i64]; omega
   by_cases hf : FitN eps (moreN (n, lo, hi, sm) v)
   · simp only [stepN, if_pos hf]
     rw [decide_eq_true (show (sm + v) / ((n : Int) + 1) - min lo v ≤ eps ∧ max hi v - (sm + v) / ((n : Int) + 1) ≤ eps from hf)] at kn
     exact p_segY _ _ eps n lo hi (meX_of _ _ _ _ _) (meC eps ((n : Int) + 1) (min lo v) (max hi v) (sm + v)) v rfl (meC_one _ _ _ _ _) (hide fun w => p_extYe _ eps n lo hi sm (meX_of _ _ _ _ _) v (sm + v) (ne_0 (okV_n hs).2) wr k1 k2 (hide kn) w) W
   · simp only [stepN, if_neg hf]
     rw [decide_eq_false (show ¬ ((sm + v) / ((n : Int) + 1) - min lo v ≤ eps ∧ max hi v - (sm + v) / ((n : Int) + 1) ≤ eps) from hf)] at kn
     exact p_segN _ _ eps n lo hi (meX_of _ _ _ _ _) (meC eps 1 v v v) v _ rfl (meC_one _ _ _ _ _) (hide fun w => p_extNe _ eps n lo hi sm (meX_of _ _ _ _ _) v (sm + v) (ne_0 (okV_n hs).2) wr k1 k2 (hide kn) w) (hide fun w => p_beginN _ _ eps n lo hi v (meX_of _ _ _ _ _) hv w) ke W
end
section
open Go Go.RowKit Go.Sort
def allNF (eps : Int) (l : List Int) : List (Int × Int) × Nat := if tolB eps = true then (if 1073741824 < l.length then ([], 3) else ((allN eps l).map coN, 0)) else ([], 9)
theorem stepN_le (eps : Int) (s : Option Mn) (v : Int) : (stepN eps s v).2.length ≤ 1 := by
 rcases s with _ | s
 · simp [stepN]
 · simp only [stepN]; split <;> simp
theorem doneN_le (eps : Int) : ∀ (l : List Int) (s : Option Mn), (doneN eps s l).length ≤ l.length
 | [], _ => by simp [doneN]
 | v :: l, s => by
   have h1 := doneN_le eps l (stepN eps s v).1
   have h2 := stepN_le eps s v
   simp only [doneN, List.length_append, List.length_cons]
   omega
theorem endN_le (s : Option Mn) : (endN s).length ≤ 1 := by rcases s with _ | s <;> simp [endN]
theorem stN_size (eps : Int) (s : Option Mn) : (stN eps s).size = 9 := by rcases s with _ | ⟨n, lo, hi, sm⟩ <;> rfl
theorem state_atV {eps : Int} (he : Tol eps) {l : List Int} (ho : ∀ v ∈ l, I64 v) (hn : l.length ≤ 1073741824) (j : Nat) (hj : j ≤ l.length) : OkV eps (stateN eps none (l.take j)) ∧ cntN (stateN eps none (l.take j)) ≤ j :=
 ⟨okN_okV (state_atN he ho hn j hj).1, (state_atN he ho hn j hj).2⟩
theorem blk9 {w : World} {g : Nat} {t c lo hi z t' c' lo' hi' z' : Int} (h : Blk w g 27 (meC t c lo hi z)) : Blk (((((((((w.setCell ⟨g, 0, none⟩ (.int .i64 t')).setCell ⟨g, 1, none⟩ (.int .i64 c')).setCell ⟨g, 2, none⟩ (.int .i64 lo')).setCell ⟨g, 3, none⟩ (.int .i64 hi')).setCell ⟨g, 4, none⟩ (.bool (sg z'))).setCell ⟨g, 5, none⟩ (.int .u64 (l0 z' : Int))).setCell ⟨g, 6, none⟩ (.int .u64 (l1 z' : Int))).setCell ⟨g, 7, none⟩ (.int .u64 (l2 z' : Int))).setCell ⟨g, 8, none⟩ (.int .u64 (l3 z' : Int))) g 27 (meC t' c' lo' hi' z') := by
 have k := (((((((((h).set_ 0 (.int .i64 t')).set_ 1 (.int .i64 c')).set_ 2 (.int .i64 lo')).set_ 3 (.int .i64 hi')).set_ 4 (.bool (sg z'))).set_ 5 (.int .u64 (l0 z' : Int))).set_ 6 (.int .u64 (l1 z' : Int))).set_ 7 (.int .u64 (l2 z' : Int))).set_ 8 (.int .u64 (l3 z' : Int))
 have e : ((((((((((meC t c lo hi z)).setIfInBounds 0 (.int .i64 t')).setIfInBounds 1 (.int .i64 c')).setIfInBounds 2 (.int .i64 lo')).setIfInBounds 3 (.int .i64 hi')).setIfInBounds 4 (.bool (sg z'))).setIfInBounds 5 (.int .u64 (l0 z' : Int))).setIfInBounds 6 (.int .u64 (l1 z' : Int))).setIfInBounds 7 (.int .u64 (l2 z' : Int))).setIfInBounds 8 (.int .u64 (l3 z' : Int)) = meC t' c' lo' hi' z' := by kernel_rfl
 rw [e] at k
 exact k
theorem upd9 (w : World) (g : Nat) (t c lo hi z : Int) : Upd g w (((((((((w.setCell ⟨g, 0, none⟩ (.int .i64 t)).setCell ⟨g, 1, none⟩ (.int .i64 c)).setCell ⟨g, 2, none⟩ (.int .i64 lo)).setCell ⟨g, 3, none⟩ (.int .i64 hi)).setCell ⟨g, 4, none⟩ (.bool (sg z))).setCell ⟨g, 5, none⟩ (.int .u64 (l0 z : Int))).setCell ⟨g, 6, none⟩ (.int .u64 (l1 z : Int))).setCell ⟨g, 7, none⟩ (.int .u64 (l2 z : Int))).setCell ⟨g, 8, none⟩ (.int .u64 (l3 z : Int))) := ((((((((((Upd.refl g w)).set 0 (.int .i64 t)).set 1 (.int .i64 c)).set 2 (.int .i64 lo)).set 3 (.int .i64 hi)).set 4 (.bool (sg z))).set 5 (.int .u64 (l0 z : Int))).set 6 (.int .u64 (l1 z : Int))).set 7 (.int .u64 (l2 z : Int))).set 8 (.int .u64 (l3 z : Int))
end
section
open Go Go.RowKit Go.Sort
set_option maxHeartbeats 6400000 in
set_option maxRecDepth 100000 in
theorem p_segAll (A : Option Addr) (n c : Nat) (l : List Int) (eps : Int) (W : World) (he : Tol eps) (hl : TimesAt W A l) (hn : l.length = n) (hn2 : n ≤ 1073741824) : Calls Try.prog 43 #[.agg sgN, .agg (meC eps 0 0 0 0), .slice A n c] W (CoGet ((allN eps l).map coN) W) := by
 have hen : ∀ a w, (callFunc 52 a).run Try.prog w = .ok (.enter 52 a) w := fun a w => by go_simp
 have P4 := Blk.new (W.alloc (.cells sgN 86)) 27 (meC eps 0 0 0 0)
 have P3 := (Blk.new W 86 sgN).alloc (.cells (meC eps 0 0 0 0) 27)
 rw [alloc_size] at P4
 have EE := (ext_alloc W (.cells sgN 86)).trans (ext_alloc _ (.cells (meC eps 0 0 0 0) 27))
 have hgs : W.heap.size + 2 = ((W.alloc (.cells sgN 86)).alloc (.cells (meC eps 0 0 0 0) 27)).heap.size := by rw [alloc_size, alloc_size]
 obtain ⟨g, hg⟩ : ∃ g, W.heap.size = g := ⟨_, rfl⟩
 obtain ⟨w2, hw2⟩ : ∃ w, (W.alloc (.cells sgN 86)).alloc (.cells (meC eps 0 0 0 0) 27) = w := ⟨_, rfl⟩
 rw [hw2] at P3 P4 EE hgs
 rw [hg] at P3 P4 hgs
 have P3 := hide P3
 have P4 : Hid (Blk w2 (g + 1) 27 (stN eps (stateN eps none (l.take 0)))) := hide P4
 have EE := hide EE
 have HW := hide hw2
 have Hg := hide hg
 have Hl := hide hl
 have Hn := hide hn
 have He := hide he
 have HI := hide hl.1
 clear hl hn he hw2 hg
 go_enter Try.func43, Try.ntmps43
 go_upto_region 1 with fail
 rw [HW.out, Hg.out]
 clear HW
 go_upto_region 3 with fail
 go_loopw [7, 9, 10, 11, 14] (fun ov _ _ _ iv wr => ∃ i : Nat, i ≤ n ∧ iv = .int .i64 (i : Int) ∧ Hid (OwnC (g + 2) wr ov ((doneN eps none (l.take i)).map coN)) ∧ Hid (Blk wr (g + 1) 27 (stN eps (stateN eps none (l.take i)))) ∧ Hid (Blk wr g 86 sgN) ∧ Hid (Ext W wr) ∧ g + 2 ≤ wr.heap.size) (fun _ _ _ _ iv _ => n - (intOf iv).toNat)
 case atStart => exact ⟨0, by omega, rfl, hide (OwnC.nil_ _ _), P4, P3, EE, by omega⟩
 case round =>
   clear P3 P4 EE hgs
   obtain ⟨i, hi, rfl, HO, HP, HS, HE, hgr⟩ := hrel
   by_cases hlt : i < n
   · have d1 : decide ((i : Int) < (n : Int)) = true := decide_eq_true (by omega)
     have him : i < l.length := by rw [Hn.out]; exact hlt
     obtain ⟨bm, om, rfl, _, hc⟩ := (Hl.out.ext HE.out).2.2 (by omega)
     have ct := hc i him
     have ix := fun w => idxT bm om n c i hlt w
     have hv : l[i]? = some (l.getD i 0) := by rw [List.getElem?_eq_getElem him]; simp [List.getD_eq_getElem?_getD, him]
     have iv := HI.out.get i
     obtain ⟨hdone, hst⟩ := done_snocN eps hv
     obtain ⟨hok, hcnt⟩ := state_atV He.out HI.out (by rw [Hn.out]; exact hn2) i (by omega)
     have hlen := doneN_le eps (l.take i) none
     rw [List.length_take] at hlen
     obtain ⟨v, hvv⟩ : ∃ v, l.getD i 0 = v := ⟨_, rfl⟩
     rw [hvv] at ct hv iv hdone hst
     have KS := fun w => p_segS eps (stateN eps none (l.take i)) v He.out hok (by omega) iv w
     have ll := stepN_le eps (stateN eps none (l.take i)) v
     obtain ⟨s, hs⟩ : ∃ s, stateN eps none (l.take i) = s := ⟨_, rfl⟩
     rw [hs] at KS hst HP ll hdone
     rw [← hst] at KS
     obtain ⟨T, hT⟩ : ∃ T, (doneN eps none (l.take i)).map coN = T := ⟨_, rfl⟩
     obtain ⟨q, hq⟩ : ∃ q, (stepN eps s v).2.map coN = q := ⟨_, rfl⟩
     have hdm : (doneN eps none (l.take (i + 1))).map coN = T ++ q := by rw [hdone, List.map_append, hT, hq]
     have hTl : T.length ≤ i := by rw [← hT, List.length_map]; omega
     have hql : q.length ≤ 1 := by rw [← hq, List.length_map]; exact ll
     rw [hT] at HO
     rw [hq] at KS
     obtain ⟨c0, lo0, hi0, z0, hr0⟩ := row_N eps s
     obtain ⟨c1, lo1, hi1, z1, hr1⟩ := row_N eps (stateN eps none (l.take (i + 1)))
     rw [hr0] at KS HP
     rw [hr1] at KS
     have Hr1 := hide hr1
     have Hdm := hide hdm
     have KS : Hid (∀ w, Calls Try.prog 51 #[.agg sgN, .agg (meC eps c0 lo0 hi0 z0), .int .i64 v] w (CoPair #[.int .i64 eps, .int .i64 c1, .int .i64 lo1, .int .i64 hi1, .bool (sg z1), .int .u64 (l0 z1 : Int), .int .u64 (l1 z1 : Int), .int .u64 (l2 z1 : Int), .int .u64 (l3 z1 : Int)] q w)) := hide KS
     have hle : T.length + q.length ≤ 8796093022208 := by omega
     have ld3 := ld_all HS.out uSgn rfl iSgn rfl
     have ld4 := ld_all HP.out uMean rfl iMean (meX_of _ _ _ _ _).s
     clear hc hvv hv hdone hst hok hcnt hlen ll hs hT hq hr0 hr1 hdm
     go_upto_region 6 with (first
       | (refine wl_load (by kernel_rfl) rfl rfl ld3 ?_)
       | (refine wl_load (by kernel_rfl) rfl rfl ld4 ?_)
       | (go_at_call 51; (with_reducible refine (KS.out _).mono ?_); rintro e w6 ⟨A6, k6, rfl, hO6, hE6⟩))
     have E7 := hE6.trans (ext_alloc w6 (.cells #[.int .i64 eps, .int .i64 c1, .int .i64 lo1, .int .i64 hi1, .bool (sg z1), .int .u64 (l0 z1 : Int), .int .u64 (l1 z1 : Int), .int .u64 (l2 z1 : Int), .int .u64 (l3 z1 : Int)] 27))
     have P10 := Blk.new w6 27 #[.int .i64 eps, .int .i64 c1, .int .i64 lo1, .int .i64 hi1, .bool (sg z1), .int .u64 (l0 z1 : Int), .int .u64 (l1 z1 : Int), .int .u64 (l2 z1 : Int), .int .u64 (l3 z1 : Int)]
     have hn10 : w6.heap.size < (w6.alloc (.cells #[.int .i64 eps, .int .i64 c1, .int .i64 lo1, .int .i64 hi1, .bool (sg z1), .int .u64 (l0 z1 : Int), .int .u64 (l1 z1 : Int), .int .u64 (l2 z1 : Int), .int .u64 (l3 z1 : Int)] 27)).heap.size := by rw [alloc_size]; exact Nat.lt_succ_self _
     have O7 := HO.out.ext E7
     have Q7 := (hO6.alloc (.cells #[.int .i64 eps, .int .i64 c1, .int .i64 lo1, .int .i64 hi1, .bool (sg z1), .int .u64 (l0 z1 : Int), .int .u64 (l1 z1 : Int), .int .u64 (l2 z1 : Int), .int .u64 (l3 z1 : Int)] 27))
     have hz6 := hE6.size
     obtain ⟨g10, hg10⟩ : ∃ k, w6.heap.size = k := ⟨_, rfl⟩
     obtain ⟨w7, hw7⟩ : ∃ w, w6.alloc (.cells #[.int .i64 eps, .int .i64 c1, .int .i64 lo1, .int .i64 hi1, .bool (sg z1), .int .u64 (l0 z1 : Int), .int .u64 (l1 z1 : Int), .int .u64 (l2 z1 : Int), .int .u64 (l3 z1 : Int)] 27) = w := ⟨_, rfl⟩
     rw [hw7] at E7 O7 Q7 hn10
     rw [hw7, hg10] at P10
     rw [hg10] at hz6 hn10
     rw [hw7, hg10]
     have S7 := hide (HS.out.ext E7)
     have P7 : Hid (Blk w7 (g + 1) 27 (meC eps c0 lo0 hi0 z0)) := hide (HP.out.ext E7)
     have P10 : Hid (Blk w7 g10 27 (meC eps c1 lo1 hi1 z1)) := hide P10
     have O7 := hide O7
     have Q7 := hide Q7
     have E8 := hide (HE.out.trans E7)
     have hz7 : g + 2 ≤ w7.heap.size := by omega
     have hob : ∀ k, Value.ownBlock _ = some k → g + 2 ≤ k ∧ k < g10 := fun k hk => by have := HO.out.1.lt k hk; exact ⟨this.1, Nat.lt_of_lt_of_le this.2 hz6⟩
     clear hw7 hg10 hE6 hO6 ld3 ld4 KS HO HP HS HE ct E7
     have s0 : w7.drew.cell? ⟨g + 1, 0, none⟩ = some (.int .i64 eps) := P7.out.cell 0
     have s1 : w7.drew.cell? ⟨g + 1, 1, none⟩ = some (.int .i64 c0) := P7.out.cell 1
     have s2 : w7.drew.cell? ⟨g + 1, 2, none⟩ = some (.int .i64 lo0) := P7.out.cell 2
     have s3 : w7.drew.cell? ⟨g + 1, 3, none⟩ = some (.int .i64 hi0) := P7.out.cell 3
     have s4 : w7.drew.cell? ⟨g + 1, 4, none⟩ = some (.bool (sg z0)) := P7.out.cell 4
     have s5 : w7.drew.cell? ⟨g + 1, 5, none⟩ = some (.int .u64 (l0 z0 : Int)) := P7.out.cell 5
     have s6 : w7.drew.cell? ⟨g + 1, 6, none⟩ = some (.int .u64 (l1 z0 : Int)) := P7.out.cell 6
     have s7 : w7.drew.cell? ⟨g + 1, 7, none⟩ = some (.int .u64 (l2 z0 : Int)) := P7.out.cell 7
     have s8 : w7.drew.cell? ⟨g + 1, 8, none⟩ = some (.int .u64 (l3 z0 : Int)) := P7.out.cell 8
     have f0 := P7.out.frozen 0
     have f1 := P7.out.frozen 1
     have f2 := P7.out.frozen 2
     have f3 := P7.out.frozen 3
     have f4 := P7.out.frozen 4
     have f5 := P7.out.frozen 5
     have f6 := P7.out.frozen 6
     have f7 := P7.out.frozen 7
     have f8 := P7.out.frozen 8
     have e0 : w7.drew.cell? ⟨g10, 0, none⟩ = some (.int .i64 eps) := P10.out.cell 0
     have e1 : w7.drew.cell? ⟨g10, 1, none⟩ = some (.int .i64 c1) := P10.out.cell 1
     have e2 : w7.drew.cell? ⟨g10, 2, none⟩ = some (.int .i64 lo1) := P10.out.cell 2
     have e3 : w7.drew.cell? ⟨g10, 3, none⟩ = some (.int .i64 hi1) := P10.out.cell 3
     have e4 : w7.drew.cell? ⟨g10, 4, none⟩ = some (.bool (sg z1)) := P10.out.cell 4
     have e5 : w7.drew.cell? ⟨g10, 5, none⟩ = some (.int .u64 (l0 z1 : Int)) := P10.out.cell 5
     have e6 : w7.drew.cell? ⟨g10, 6, none⟩ = some (.int .u64 (l1 z1 : Int)) := P10.out.cell 6
     have e7 : w7.drew.cell? ⟨g10, 7, none⟩ = some (.int .u64 (l2 z1 : Int)) := P10.out.cell 7
     have e8 : w7.drew.cell? ⟨g10, 8, none⟩ = some (.int .u64 (l3 z1 : Int)) := P10.out.cell 8
     go_region_law (refine step_appendC rfl (.tmp 26) (.tmp 27) rfl (g + 2) _ T q rfl A6 _ k6 rfl O7.out.drew (own_co Q7.out.drew) rfl hle hz7 ?_; intro v10 w10 hO10 hG10 hA10; have B10 : Below (g + 2) w7.drew w10 := (Below.refl (g + 2) w7.drew).grown hG10 hz7 (fun k hk => (hob k hk).1); have R7 : Hid (Blk w10 (g + 1) 27 (meC eps c0 lo0 hi0 z0)) := hide ((B10.block (g + 1) (Nat.lt_succ_self (g + 1))).trans P7.out); have R3 : Hid (Blk w10 g 86 sgN) := hide ((B10.block g (by omega)).trans S7.out); have R10 : Hid (Blk w10 g10 27 (meC eps c1 lo1 hi1 z1)) := hide ((hG10.block g10 hn10 (fun e => by have := hob g10 e.symm; omega)).trans P10.out); have E10 := hide (below_grownC (B := g + 2) (E8.out.trans (ext_drew _)) (by rw [Hg.out]; omega) O7.out.drew hG10); have O10 := hide hO10; have r0 : w10.cell? ⟨g + 1, 0, none⟩ = some (.int .i64 eps) := R7.out.cell 0; have r1 : w10.cell? ⟨g + 1, 1, none⟩ = some (.int .i64 c0) := R7.out.cell 1; have r2 : w10.cell? ⟨g + 1, 2, none⟩ = some (.int .i64 lo0) := R7.out.cell 2; have r3 : w10.cell? ⟨g + 1, 3, none⟩ = some (.int .i64 hi0) := R7.out.cell 3; have r4 : w10.cell? ⟨g + 1, 4, none⟩ = some (.bool (sg z0)) := R7.out.cell 4; have r5 : w10.cell? ⟨g + 1, 5, none⟩ = some (.int .u64 (l0 z0 : Int)) := R7.out.cell 5; have r6 : w10.cell? ⟨g + 1, 6, none⟩ = some (.int .u64 (l1 z0 : Int)) := R7.out.cell 6; have r7 : w10.cell? ⟨g + 1, 7, none⟩ = some (.int .u64 (l2 z0 : Int)) := R7.out.cell 7; have r8 : w10.cell? ⟨g + 1, 8, none⟩ = some (.int .u64 (l3 z0 : Int)) := R7.out.cell 8; have h0 := R7.out.frozen 0; have h1 := R7.out.frozen 1; have h2 := R7.out.frozen 2; have h3 := R7.out.frozen 3; have h4 := R7.out.frozen 4; have h5 := R7.out.frozen 5; have h6 := R7.out.frozen 6; have h7 := R7.out.frozen 7; have h8 := R7.out.frozen 8; have x0 : w10.cell? ⟨g10, 0, none⟩ = some (.int .i64 eps) := R10.out.cell 0; have x1 : w10.cell? ⟨g10, 1, none⟩ = some (.int .i64 c1) := R10.out.cell 1; have x2 : w10.cell? ⟨g10, 2, none⟩ = some (.int .i64 lo1) := R10.out.cell 2; have x3 : w10.cell? ⟨g10, 3, none⟩ = some (.int .i64 hi1) := R10.out.cell 3; have x4 : w10.cell? ⟨g10, 4, none⟩ = some (.bool (sg z1)) := R10.out.cell 4; have x5 : w10.cell? ⟨g10, 5, none⟩ = some (.int .u64 (l0 z1 : Int)) := R10.out.cell 5; have x6 : w10.cell? ⟨g10, 6, none⟩ = some (.int .u64 (l1 z1 : Int)) := R10.out.cell 6; have x7 : w10.cell? ⟨g10, 7, none⟩ = some (.int .u64 (l2 z1 : Int)) := R10.out.cell 7; have x8 : w10.cell? ⟨g10, 8, none⟩ = some (.int .u64 (l3 z1 : Int)) := R10.out.cell 8; clear hO10 hG10 hA10 B10)
     all_goals
       have U9 := upd9 w10 (g + 1) eps c1 lo1 hi1 z1
       have P9 := blk9 (t' := eps) (c' := c1) (lo' := lo1) (hi' := hi1) (z' := z1) R7.out
       have O9 := O10.out.upd U9 (Nat.lt_succ_self (g + 1))
       have S9 := hide ((U9.2.2.2.2 g R3.out.lt (by omega)).trans R3.out)
       have E9 := U9.ext E10.out (by rw [Hg.out]; omega)
       have hz9 : g + 2 ≤ w10.heap.size := R7.out.lt
       have hz9 := Nat.le_trans hz9 U9.2.2.2.1
       obtain ⟨w9, hw9⟩ : ∃ w, (((((((((w10.setCell ⟨g + 1, 0, none⟩ (.int .i64 eps)).setCell ⟨g + 1, 1, none⟩ (.int .i64 c1)).setCell ⟨g + 1, 2, none⟩ (.int .i64 lo1)).setCell ⟨g + 1, 3, none⟩ (.int .i64 hi1)).setCell ⟨g + 1, 4, none⟩ (.bool (sg z1))).setCell ⟨g + 1, 5, none⟩ (.int .u64 (l0 z1 : Int))).setCell ⟨g + 1, 6, none⟩ (.int .u64 (l1 z1 : Int))).setCell ⟨g + 1, 7, none⟩ (.int .u64 (l2 z1 : Int))).setCell ⟨g + 1, 8, none⟩ (.int .u64 (l3 z1 : Int))) = w := ⟨_, rfl⟩
       rw [hw9] at P9 O9 S9 E9 hz9 ⊢
       have P9 : Hid (Blk w9 (g + 1) 27 (stN eps (stateN eps none (l.take (i + 1))))) := by show Blk _ _ _ _; rw [Hr1.out]; exact P9
       have O9 : Hid (OwnC (g + 2) w9 v10 ((doneN eps none (l.take (i + 1))).map coN)) := by show OwnC _ _ _ _; rw [Hdm.out]; exact O9
       have S9 : Hid (Blk w9 g 86 sgN) := S9
       have E9 := hide E9
       clear hw9 U9 R7 R3 R10 O10 E10 P7 P10 S7 O7 Q7 E8 s0 s1 s2 s3 s4 s5 s6 s7 s8 f0 f1 f2 f3 f4 f5 f6 f7 f8 e0 e1 e2 e3 e4 e5 e6 e7 e8 r0 r1 r2 r3 r4 r5 r6 r7 r8 h0 h1 h2 h3 h4 h5 h6 h7 h8 x0 x1 x2 x3 x4 x5 x6 x7 x8 Hr1 Hdm
       go_wp2_with fail
       go_roundw
       case rel => exact ⟨i + 1, by omega, by go_num, O9, P9, S9, E9, hz9⟩
       case measure => simp [intOf]; omega
   · obtain rfl : i = n := by omega
     have d1 : decide ((i : Int) < (i : Int)) = false := decide_eq_false (by omega)
     have hli : l.take i = l := List.take_of_length_le (by rw [Hn.out]; omega)
     rw [hli] at HO HP
     obtain ⟨hok, _⟩ := state_atV He.out HI.out (by rw [Hn.out]; exact hn2) l.length (by omega)
     rw [List.take_length] at hok
     have hdl := doneN_le eps l none
     have KF := fun w => p_endV eps (stateN eps none l) hok w
     have ld := ld_all HP.out uMean rfl iMean (stN_size _ _)
     have cf : wr.cell? ⟨g, 2, none⟩ = some (.func (.func 52) #[] #[]) := HS.out.cell 2
     have hel := endN_le (stateN eps none l)
     rw [← List.length_map (f := coN)] at hel
     have hal : (allN eps l).map coN = (doneN eps none l).map coN ++ (endN (stateN eps none l)).map coN := by unfold allN; rw [List.map_append]
     obtain ⟨q, hq⟩ : ∃ q, (endN (stateN eps none l)).map coN = q := ⟨_, rfl⟩
     obtain ⟨T, hT⟩ : ∃ T, (doneN eps none l).map coN = T := ⟨_, rfl⟩
     rw [hq] at KF hel
     rw [hT] at HO
     have hTl : T.length ≤ i := by have := Hn.out; rw [← hT, List.length_map]; omega
     rw [hq, hT] at hal
     have Hal := hide hal
     obtain ⟨X, hX⟩ : ∃ X, stN eps (stateN eps none l) = X := ⟨_, rfl⟩
     rw [hX] at KF ld HP
     have KF := hide KF
     have hle : T.length + q.length ≤ 8796093022208 := by omega
     clear hok hdl hq hT hX hal hli
     go_wp2_with (refine wl_load (by kernel_rfl) rfl rfl ld ?_)
     (with_reducible refine (KF.out _).mono ?_)
     rintro e w6 ⟨A6, k6, rfl, hO6, hE6⟩
     have O6 := hide (HO.out.ext hE6)
     have Q6 := hide (own_co hO6)
     have E6 := hide (HE.out.trans hE6)
     have hz6 : g + 2 ≤ w6.heap.size := (Nat.le_trans hgr hE6.size)
     clear hO6 hE6 ld cf
     go_wp2_with (at_builtin; refine wl_appendC rfl (.tmp 30) (.tmp 34) rfl (g + 2) _ T q rfl O6.out A6 _ k6 rfl Q6.out rfl hle hz6 ?_; intro v10 w10 hO10 hG10 hA10; have E10 := hide (below_grownC (B := g + 2) E6.out (by rw [Hg.out]; omega) O6.out hG10); have O10 := hide hO10; clear hO10 hG10 hA10)
     obtain ⟨A1, c1, rfl, _, _, _⟩ := O10.out.at_
     go_ret
     rw [Hal.out]
     exact ⟨A1, c1, rfl, O10.out.less (by rw [Hg.out]; omega), E10.out⟩
theorem p_allTe (A : Option Addr) (n c : Nat) (eps : Int) (W : World) (ht : tolB eps = false) : Calls Try.prog 18 #[.slice A n c, .int .i64 eps] W (CoFin [] 9 W) := by
 have KS := hide fun w => p_startE_no eps w (hide fun w => pm_tol eps w false ht)
 unfold z9m at *
 clear ht
 go_enter Try.func18, Try.ntmps18
 go_wp2_with (go_at_call 9; (with_reducible refine (KS.out _).mono ?_); rintro e w1 ⟨rfl, hE⟩; have E1 := hide hE; clear hE)
 go_ret2
 exact ⟨none, 0, rfl, OwnC.nil_ _ _, E1.out.trans (ext_alloc _ _)⟩
theorem p_allLe (A : Option Addr) (n c : Nat) (eps : Int) (W : World) (ht : tolB eps = true) (hn : 1073741824 < n) : Calls Try.prog 18 #[.slice A n c, .int .i64 eps] W (CoFin [] 3 W) := by
 have KS := hide fun w => p_startE eps w (hide fun w => pm_tol eps w true ht)
 have d0 : decide ((1073741824 : Int) < (n : Int)) = true := decide_eq_true (by omega)
 unfold meC meR at *
 clear ht hn
 go_enter Try.func18, Try.ntmps18
 go_wp2_with (go_at_call 9; (with_reducible refine (KS.out _).mono ?_); rintro e w1 ⟨rfl, hE⟩; have E1 := hide hE; clear hE)
 go_ret2
 exact ⟨none, 0, rfl, OwnC.nil_ _ _, E1.out.trans (ext_alloc _ _)⟩
set_option maxHeartbeats 3200000 in
set_option maxRecDepth 100000 in
theorem p_allGe (A : Option Addr) (n c : Nat) (l : List Int) (eps : Int) (W : World) (he : Tol eps) (hl : TimesAt W A l) (hn : l.length = n) (hn2 : n ≤ 1073741824) : Calls Try.prog 18 #[.slice A n c, .int .i64 eps] W (CoFin ((allN eps l).map coN) 0 W) := by
 have KS := hide fun w => p_startE eps w (hide fun w => pm_tol eps w true (tolB_iff.2 he))
 have d0 : decide ((1073741824 : Int) < (n : Int)) = false := decide_eq_false (by omega)
 have KM := hide fun w => p_means w
 have KA : Hid (∀ w, Ext W w → Calls Try.prog 43 #[.agg sgN, .agg #[.int .i64 eps, .int .i64 0, .int .i64 0, .int .i64 0, .bool (sg 0), .int .u64 (l0 0 : Int), .int .u64 (l1 0 : Int), .int .u64 (l2 0 : Int), .int .u64 (l3 0 : Int)], .slice A n c] w (CoGet ((allN eps l).map coN) w)) := hide fun w h => p_segAll A n c l eps w he (hl.ext h) hn hn2
 obtain ⟨T, hT⟩ : ∃ T, (allN eps l).map coN = T := ⟨_, rfl⟩
 rw [hT] at KA ⊢
 clear hl hn he hT
 unfold meC meR at KS
 go_enter Try.func18, Try.ntmps18
 go_upto_region 6 with (go_at_call 9; (with_reducible refine (KS.out _).mono ?_); rintro e w1 ⟨rfl, hE⟩; have E1 := hide hE; clear hE)
 have P6 := Blk.new w1 27 #[.int .i64 eps, .int .i64 0, .int .i64 0, .int .i64 0, .bool (sg 0), .int .u64 (l0 0 : Int), .int .u64 (l1 0 : Int), .int .u64 (l2 0 : Int), .int .u64 (l3 0 : Int)]
 have E2 := hide (E1.out.trans (ext_alloc w1 (.cells #[.int .i64 eps, .int .i64 0, .int .i64 0, .int .i64 0, .bool (sg 0), .int .u64 (l0 0 : Int), .int .u64 (l1 0 : Int), .int .u64 (l2 0 : Int), .int .u64 (l3 0 : Int)] 27)))
 obtain ⟨g, hg⟩ : ∃ g, w1.heap.size = g := ⟨_, rfl⟩
 obtain ⟨w2, hw2⟩ : ∃ w, w1.alloc (.cells #[.int .i64 eps, .int .i64 0, .int .i64 0, .int .i64 0, .bool (sg 0), .int .u64 (l0 0 : Int), .int .u64 (l1 0 : Int), .int .u64 (l2 0 : Int), .int .u64 (l3 0 : Int)] 27) = w := ⟨_, rfl⟩
 rw [hw2, hg] at P6
 rw [hw2] at E2
 rw [hw2, hg]
 have P6 := hide P6
 clear hw2 hg E1
 have P6 : Hid (Blk w2 g 27 (meC eps 0 0 0 0)) := P6
 have s0 : w2.drew.cell? ⟨g, 0, none⟩ = some (.int .i64 eps) := P6.out.cell 0
 have s1 : w2.drew.cell? ⟨g, 1, none⟩ = some (.int .i64 0) := P6.out.cell 1
 have s2 : w2.drew.cell? ⟨g, 2, none⟩ = some (.int .i64 0) := P6.out.cell 2
 have s3 : w2.drew.cell? ⟨g, 3, none⟩ = some (.int .i64 0) := P6.out.cell 3
 have s4 : w2.drew.cell? ⟨g, 4, none⟩ = some (.bool (sg 0)) := P6.out.cell 4
 have s5 : w2.drew.cell? ⟨g, 5, none⟩ = some (.int .u64 (l0 0 : Int)) := P6.out.cell 5
 have s6 : w2.drew.cell? ⟨g, 6, none⟩ = some (.int .u64 (l1 0 : Int)) := P6.out.cell 6
 have s7 : w2.drew.cell? ⟨g, 7, none⟩ = some (.int .u64 (l2 0 : Int)) := P6.out.cell 7
 have s8 : w2.drew.cell? ⟨g, 8, none⟩ = some (.int .u64 (l3 0 : Int)) := P6.out.cell 8
 go_region_law (first
   | (go_simp; go_at_call 42; (with_reducible refine (KM.out _).mono ?_); rintro e w3 ⟨rfl, hE3⟩; have E3 := hide ((E2.out.trans (ext_drew w2)).trans hE3); have R6 : Hid (Blk w3 g 27 (meC eps 0 0 0 0)) := hide ((P6.out.ext (ext_drew w2)).ext hE3); have r0 : w3.cell? ⟨g, 0, none⟩ = some (.int .i64 eps) := R6.out.cell 0; have r1 : w3.cell? ⟨g, 1, none⟩ = some (.int .i64 0) := R6.out.cell 1; have r2 : w3.cell? ⟨g, 2, none⟩ = some (.int .i64 0) := R6.out.cell 2; have r3 : w3.cell? ⟨g, 3, none⟩ = some (.int .i64 0) := R6.out.cell 3; have r4 : w3.cell? ⟨g, 4, none⟩ = some (.bool (sg 0)) := R6.out.cell 4; have r5 : w3.cell? ⟨g, 5, none⟩ = some (.int .u64 (l0 0 : Int)) := R6.out.cell 5; have r6 : w3.cell? ⟨g, 6, none⟩ = some (.int .u64 (l1 0 : Int)) := R6.out.cell 6; have r7 : w3.cell? ⟨g, 7, none⟩ = some (.int .u64 (l2 0 : Int)) := R6.out.cell 7; have r8 : w3.cell? ⟨g, 8, none⟩ = some (.int .u64 (l3 0 : Int)) := R6.out.cell 8; have ka := hide (KA.out w3 E3.out); clear hE3)
   | (go_simp; go_at_call 43; (with_reducible refine (ka.out).mono ?_); rintro e w4 ⟨A4, k4, rfl, hO4, hE4⟩; have O4 := hide (hO4.less (B' := W.heap.size) E3.out.size); have E4 := hide (E3.out.trans hE4); clear hO4 hE4))
 all_goals go_wp2_with fail
 all_goals go_ret2
 all_goals exact ⟨A4, k4, rfl, O4.out, E4.out⟩
theorem p_allNF (A : Option Addr) (n c : Nat) (l : List Int) (eps : Int) (W : World) (hl : TimesAt W A l) (hn : l.length = n) : Calls Try.prog 18 #[.slice A n c, .int .i64 eps] W (CoFin (allNF eps l).1 (allNF eps l).2 W) := by
 unfold allNF
 cases ht : tolB eps with
 | false => exact p_allTe A n c eps W ht
 | true =>
   rw [if_pos rfl]
   by_cases h : 1073741824 < l.length
   · rw [if_pos h]
     exact p_allLe A n c eps W ht (by omega)
   · rw [if_neg h]
     exact p_allGe A n c l eps W (tolB_iff.1 ht) hl hn (by omega)
end
section
open Go Go.RowKit Go.Sort
theorem k16a : allNF 2 [0, 0, 0, 4] = ([(3, 0), (1, 4)], 0) := by decide +kernel
theorem k16b : allNF 2 [0, 3] = ([(2, 1)], 0) := by decide +kernel
set_option maxRecDepth 100000 in
theorem l_known16 (W : World) : Calls Try.prog 14 #[] W (Ret (.bool true) W) := by
 have E0 := hide (ext_alloc W (.cells #[.int .i64 0, .int .i64 0, .int .i64 0, .int .i64 4] 2))
 have H0 := new_atT W [0, 0, 0, 4] (by intro x hx; simp at hx; unfold I64; omega) (by simp) #[.int .i64 0, .int .i64 0, .int .i64 0, .int .i64 4] rfl
 have KA := p_allNF (some ⟨W.heap.size, 0, none⟩) 4 4 [0, 0, 0, 4] 2 _ H0 rfl
 rw [k16a] at KA
 have KA := hide KA
 have e1 := fun w => eqC2 3 0 3 0 w
 have e2 := fun w => eqC2 2 1 2 1 w
 clear H0
 go_enter Try.func14, Try.ntmps14
 go_upto_region 2 with (go_at_call 18; (with_reducible refine (KA.out).mono ?_); rintro e w1 ⟨A1, c1, rfl, hO, hE⟩)
 have E1 := hide (E0.out.trans hE)
 have O1 := hide (own_co hO)
 clear hO hE KA E0
 have E2 := hide (ext_alloc w1 (.cells #[.int .i64 0, .int .i64 3] 2))
 have H1 := new_atT w1 [0, 3] (by intro x hx; simp at hx; unfold I64; omega) (by simp) #[.int .i64 0, .int .i64 3] rfl
 have KB := p_allNF (some ⟨w1.heap.size, 0, none⟩) 2 2 [0, 3] 2 _ H1 rfl
 rw [k16b] at KB
 have KB := hide KB
 clear H1
 go_upto_region 3 with (go_at_call 18; (with_reducible refine (KB.out).mono ?_); rintro e w3 ⟨A3, c3, rfl, hO, hE⟩)
 have E3 := hide (E1.out.trans (E2.out.trans hE))
 obtain ⟨b1, o1, rfl, _, hc1⟩ := ((O1.out.ext E2.out).ext hE).2.2 (by simp)
 obtain ⟨b3, o3, rfl, _, hc3⟩ := (own_co hO).2.2 (by simp)
 have p0 : w3.cell? ⟨b1, o1, none⟩ = some (.int .i64 3) := (hc1 0 (by simp)).1
 have p1 : w3.cell? ⟨b1, o1 + 1, none⟩ = some (.int .i64 0) := (hc1 0 (by simp)).2
 have q0 : w3.cell? ⟨b3, o3, none⟩ = some (.int .i64 2) := (hc3 0 (by simp)).1
 have q1 : w3.cell? ⟨b3, o3 + 1, none⟩ = some (.int .i64 1) := (hc3 0 (by simp)).2
 have ix0 : ∀ w, (Instr.indexAt 46 (.slice (some ⟨b1, o1, none⟩) 2 c1) (.int .i64 0)).run Try.prog w = .ok (.pointer (some ⟨b1, o1, none⟩)) w := fun w => idxC b1 o1 2 c1 0 (by decide) w
 have ix1 : ∀ w, (Instr.indexAt 46 (.slice (some ⟨b3, o3, none⟩) 1 c3) (.int .i64 0)).run Try.prog w = .ok (.pointer (some ⟨b3, o3, none⟩)) w := fun w => idxC b3 o3 1 c3 0 (by decide) w
 clear hc1 hc3 hO hE KB O1 E1 E2
 go_wp2_with fail
 go_ret
 exact ⟨rfl, E3.out⟩
end
section
def SegC (eps : Int) (l : List Int) (ls : List Mn) (k a : Nat) : Prop := a ≤ l.length ∧ k ≤ ls.length ∧ SegsN eps (l.drop a) (ls.drop k)
theorem segC0 {eps : Int} (he : 0 ≤ eps) (l : List Int) : SegC eps l (allN eps l) 0 0 := ⟨Nat.zero_le _, Nat.zero_le _, allN_segs he l⟩
theorem SegC.next {eps : Int} {l : List Int} {ls : List Mn} {k a : Nat} (h : SegC eps l ls k a) (hk : k < ls.length) :
   ∃ (s : Mn), ls[k]? = some s ∧ 1 ≤ s.1 ∧ a + s.1 ≤ l.length ∧ IsN ((l.drop a).take s.1) s ∧ FitN eps s ∧ (∀ y, l[a + s.1]? = some y → ¬ FitN eps (moreN s y)) ∧ SegC eps l ls (k + 1) (a + s.1) := by
 obtain ⟨h1, h2, h3⟩ := h
 rw [List.drop_eq_getElem_cons hk] at h3
 cases hd : l.drop a with
 | nil => rw [hd] at h3; exact absurd h3 (by simp [SegsN])
 | cons x l' =>
   rw [hd] at h3
   obtain ⟨g1, g2, g3, g4, g5⟩ := h3
   have hl : l.length - a = l'.length + 1 := by rw [← List.length_drop, hd]; rfl
   refine ⟨ls[k], List.getElem?_eq_getElem hk, g2.2.1, by omega, g2, g3, fun y hy => g4 y ?_, by omega, by omega, ?_⟩
   · rw [← hd, List.getElem?_drop]; exact hy
   · rw [← hd, List.drop_drop] at g5; exact g5
theorem allN_le (eps : Int) (l : List Int) : (allN eps l).length ≤ l.length := by
 have key : ∀ (ls : List Mn) (m : List Int), SegsN eps m ls → ls.length ≤ m.length := by
   intro ls
   induction ls with
   | nil => intro m _; simp
   | cons s ls ih =>
     intro m hm
     cases m with
     | nil => exact absurd hm (by simp [SegsN])
     | cons x m =>
       obtain ⟨g1, g2, _, _, g5⟩ := hm
       have := ih _ g5
       have h1 := g2.2.1
       simp only [List.length_drop, List.length_cons] at *
       omega
 have hle : ∀ (l : List Int) (s : Option Mn), (doneN eps s l).length + (endN (stateN eps s l)).length ≤ l.length + (endN s).length := by
   intro l
   induction l with
   | nil => intro s; simp [doneN, stateN]
   | cons v l ih =>
     intro s
     have h := ih (stepN eps s v).1
     have h2 : (stepN eps s v).2.length + (endN (stepN eps s v).1).length ≤ 1 + (endN s).length := by
       rcases s with _ | s
       · simp [stepN, endN]
       · simp only [stepN]; split <;> simp [endN]
     simp only [doneN, stateN, List.foldl_cons, List.length_append, List.length_cons] at *
     omega
 have := hle l none
 simpa [allN, endN] using this
def SmN (l : List Int) (a j : Nat) : Int := ((l.drop a).take j).sum
theorem smN_0 (l : List Int) (a : Nat) : SmN l a 0 = 0 := by simp [SmN]
theorem smN_next {l : List Int} {a j : Nat} {v : Int} (hv : l[a + j]? = some v) : SmN l a (j + 1) = SmN l a j + v := sum_take (by rw [List.getElem?_drop]; exact hv)
theorem sum_abs : ∀ {l : List Int}, (∀ v ∈ l, I64 v) → l.sum.natAbs ≤ l.length * 9223372036854775808
 | [], _ => by simp
 | v :: l, h => by
   have h1 := h v (by simp)
   have h2 := sum_abs (l := l) fun w hw => h w (by simp [hw])
   simp only [List.sum_cons, List.length_cons]
   unfold I64 at h1
   omega
theorem smN_size {l : List Int} (h : ∀ v ∈ l, I64 v) (a : Nat) {j : Nat} (hj : j ≤ 1073741824) : F256 (SmN l a j) := by
 have h1 := sum_abs (l := (l.drop a).take j) fun v hv => h v (List.mem_of_mem_drop (List.mem_of_mem_take hv))
 have h2 : ((l.drop a).take j).length ≤ j := by rw [List.length_take]; exact Nat.min_le_left _ _
 unfold F256 SmN
 omega
def AllN (l : List Int) (a : Nat) (mn eps : Int) (j : Nat) : Bool := decide (∀ i, i < j → nearV (l.getD (a + i) 0) mn eps = true)
theorem allN_0 (l : List Int) (a : Nat) (mn eps : Int) : AllN l a mn eps 0 = true := decide_eq_true fun i hi => absurd hi (by omega)
theorem allN_next (l : List Int) (a : Nat) (mn eps : Int) (j : Nat) : AllN l a mn eps (j + 1) = (AllN l a mn eps j && nearV (l.getD (a + j) 0) mn eps) := by
 unfold AllN
 rw [Bool.eq_iff_iff, Bool.and_eq_true, decide_eq_true_iff, decide_eq_true_iff]
 constructor
 · intro h
   exact ⟨fun i hi => h i (by omega), h j (by omega)⟩
 · rintro ⟨h1, h2⟩ i hi
   rcases Nat.lt_or_ge i j with h | h
   · exact h1 i h
   · obtain rfl : i = j := by omega
     exact h2
theorem near_iff {x m eps : Int} (he : 0 ≤ eps) : nearV x m eps = true ↔ x - m ≤ eps ∧ m - x ≤ eps := by
 unfold nearV
 rw [decide_eq_true_iff]
 omega
theorem isN_near {l : List Int} {a : Nat} {s : Mn} {eps : Int} (he : 0 ≤ eps) (h : IsN ((l.drop a).take s.1) s) (hl : a + s.1 ≤ l.length) : (∀ i, i < s.1 → nearV (l.getD (a + i) 0) (s.2.2.2 / (s.1 : Int)) eps = true) ↔ FitN eps s := by
 rw [← near_fit h]
 constructor
 · intro k v hv
   obtain ⟨i, hi⟩ := List.mem_iff_getElem?.1 hv
   have hlt : i < s.1 := by
     have := (List.getElem?_eq_some_iff.1 hi).1
     rw [List.length_take] at this
     omega
   rw [List.getElem?_take_of_lt hlt, List.getElem?_drop] at hi
   have := k i hlt
   rw [List.getD_eq_getElem?_getD, hi] at this
   exact (near_iff he).1 this
 · intro k i hi
   refine (near_iff he).2 (k _ ?_)
   refine List.mem_of_getElem? (i := i) ?_
   rw [List.getElem?_take_of_lt hi, List.getElem?_drop, List.getD_eq_getElem?_getD, List.getElem?_eq_getElem (show a + i < l.length by omega)]
   rfl
theorem all_not {l : List Int} {a : Nat} {s : Mn} {eps y : Int} (he : 0 ≤ eps) (h : IsN ((l.drop a).take s.1) s) (hy : l[a + s.1]? = some y) (hf : ¬ FitN eps (moreN s y)) : AllN l a (SmN l a (s.1 + 1) / ((s.1 + 1 : Nat) : Int)) eps (s.1 + 1) = false := by
 have hl := (List.getElem?_eq_some_iff.1 hy).1
 have hm : IsN ((l.drop a).take (moreN s y).1) (moreN s y) := isN_next h (by rw [List.getElem?_drop]; exact hy)
 have hs : SmN l a (s.1 + 1) = (moreN s y).2.2.2 := hm.2.2.2.2.2
 rw [hs]
 refine decide_eq_false fun k => hf ((isN_near he hm (by show a + (s.1 + 1) ≤ _; omega)).1 k)
theorem mean_64 {l : List Int} {a n : Nat} (h : ∀ v ∈ l, I64 v) (h1 : 1 ≤ n) (hl : a + n ≤ l.length) : I64 (SmN l a n / (n : Int)) := by
 have hlen : ((l.drop a).take n).length = n := by rw [List.length_take, List.length_drop]; omega
 have hm : ∀ v ∈ (l.drop a).take n, I64 v := fun v hv => h v (List.mem_of_mem_drop (List.mem_of_mem_take hv))
 have p := sum_ge (lo := -9223372036854775808) (p := (l.drop a).take n) fun v hv => (hm v hv).1
 have q := sum_le (hi := 9223372036854775807) (p := (l.drop a).take n) fun v hv => (hm v hv).2
 rw [hlen] at p q
 have hp : (0 : Int) < (n : Int) := by omega
 unfold SmN
 refine ⟨(Int.le_ediv_iff_mul_le hp).2 (by rw [Int.mul_comm]; exact p), ?_⟩
 have := Int.ediv_le_ediv hp q
 rwa [Int.mul_ediv_cancel_left _ (by omega)] at this
end
section
open Go Go.RowKit
section
variable {l : List Oper} {a0 : Act} {W : World} {P : Program} {Q : Exit → Act → World → Prop}
theorem wp_evA {id : Nat} (kd : List Tg) (nd : List Nat) (V : (Nat → Value) → List Value) (zero : Nat → Obj) (full : (Nat → Value) → Nat → Obj) (tgt : Nat → Nat) (T : Nat → (Nat → Value) → World → Prop) (E : Nat → Prop) (A : (Nat → Value) → Act) (F : (Nat → Value) → (Nat → Nat) → Act) (hF : ∀ R G, putE l kd (V R) R G 0 a0 = F R G) (hA : ∀ R, F R (fun _ => 0) = A R) (hm : P.follows .mixedOrders = true) (hck : chkE l kd = true) (hnd : ndB l kd nd = true) (hdst : dstB l a0.tmps.size = true) (h4 : kd.length = l.length) (h5 : ∀ R, (V R).length = l.length)
   (hE : ∀ k, E k → k < W.heap.size) (hEt : ∀ c, Tg.so c ∈ kd → ¬ E (tgt c)) (htg : ∀ c, Tg.so c ∈ kd → tgt c < W.heap.size) (htd : ∀ c c', Tg.so c ∈ kd → Tg.so c' ∈ kd → tgt c = tgt c' → c = c') (hV : ∀ R R', Stab nd R R' 0 (V R) (V R')) (hFu : ∀ R R' i, (∀ m, m < nd.getD i 0 → R m = R' m) → full R i = full R' i)
   (hTB : ∀ s R w w', T s R w → Below w.heap.size w w' → T s R w') (hT0 : T 0 (fun _ => undef) W.drew)
   (hops : AllOps (RuleE P T E l kd nd V zero full tgt W A) 0 l)
   (hend : ∀ s R G w, EInv T E l kd zero full tgt W (List.range l.length) s R G w → ∀ f, f = F R G → Q .normal f w) :
   (Code.region id l.toArray true).wp P Q a0 W := by
 have e : A = fun R => putE l kd (V R) R (fun _ => 0) 0 a0 := funext fun R => ((hF R _).trans (hA R)).symm
 rw [e] at hops
 exact wp_ev kd nd V zero full tgt T E hm hck hnd hdst h4 h5 hE hEt htg htd hV hFu hTB hT0 hops (fun s R G w hI => hend s R G w hI _ (hF R G))
theorem wp_evsA {id : Nat} (kd : List Tg) (nd : List Nat) (V : (Nat → Value) → List Value) (zero : Nat → Obj) (full : (Nat → Value) → Nat → Obj) (tgt : Nat → Nat) (T : Nat → (Nat → Value) → World → Prop) (E : Nat → Prop) (A : (Nat → Value) → Act) (F : (Nat → Value) → (Nat → Nat) → Act) (hF : ∀ R G, putE l kd (V R) R G 0 a0 = F R G) (hA : ∀ R, F R (fun _ => 0) = A R) (hck : chkE l kd = true) (hnd : ndB l kd nd = true) (hdst : dstB l a0.tmps.size = true) (h4 : kd.length = l.length) (h5 : ∀ R, (V R).length = l.length)
   (hE : ∀ k, E k → k < W.heap.size) (hEt : ∀ c, Tg.so c ∈ kd → ¬ E (tgt c)) (htg : ∀ c, Tg.so c ∈ kd → tgt c < W.heap.size) (htd : ∀ c c', Tg.so c ∈ kd → Tg.so c' ∈ kd → tgt c = tgt c' → c = c') (hV : ∀ R R', Stab nd R R' 0 (V R) (V R')) (hFu : ∀ R R' i, (∀ m, m < nd.getD i 0 → R m = R' m) → full R i = full R' i)
   (hTB : ∀ s R w w', T s R w → Below w.heap.size w w' → T s R w') (hT0 : T 0 (fun _ => undef) W)
   (hops : AllOps (RuleE P T E l kd nd V zero full tgt W A) 0 l)
   (hend : ∀ s R G w, EInv T E l kd zero full tgt W (List.range l.length) s R G w → ∀ f, f = F R G → Q .normal f w) :
   (Code.region id l.toArray false).wp P Q a0 W := by
 have e : A = fun R => putE l kd (V R) R (fun _ => 0) 0 a0 := funext fun R => ((hF R _).trans (hA R)).symm
 rw [e] at hops
 exact wp_evs kd nd V zero full tgt T E hck hnd hdst h4 h5 hE hEt htg htd hV hFu hTB hT0 hops (fun s R G w hI => hend s R G w hI _ (hF R G))
end
end
section
open Go Go.RowKit
def ValsPost (N B b : Nat) (W : World) (e : Ending) (w' : World) : Prop := ∃ A n cap l, e = .returned (.slice A n cap) ∧ l.length = n ∧ n ≤ N ∧ n ≤ cap ∧ cap ≤ 9223372036854775807 ∧ OwnT W.heap.size w' (.slice A n cap) l ∧ TapeOk B w' b ∧ Upd b W w'
set_option maxHeartbeats 3200000 in
set_option maxRecDepth 100000 in
theorem t_values (N B b : Nat) (hN : N ≤ 1000) (W : World) (hT : TapeOk B W b) : Calls Try.prog 16 #[.pointer (some ⟨b, 0, none⟩), .int .i64 (N : Int)] W (ValsPost N B b W) := by
 have KT := hide (t_samples N B b hN W hT)
 have hbW := hT.2.1
 clear hT
 go_enter Try.func16, Try.ntmps16
 go_upto_region 2 with (go_at_call 40; (with_reducible refine (KT.out).mono ?_); rintro e w1 ⟨Am, n, cap, m, rfl, hm, hnN, hncap, hncap2, -, hO, T1, u1⟩; have T1 := hide T1; have U1 := hide u1; have M1 := hide (own_samps hO); have Hm := hide hm; clear hO hm u1)
 have hB1 : W.heap.size ≤ w1.heap.size := U1.out.2.2.2.1
 have E1 : Hid (Ext w1 w1) := Ext.refl _
 have Hs := hide M1.out.1
 clear KT
 go_wp2_with fail
 go_loopw [6, 7] (fun lv iv wr => ∃ i : Nat, i ≤ n ∧ iv = .int .i64 (i : Int) ∧ Hid (OwnT w1.heap.size wr lv ((m.map Prod.snd).take i)) ∧ Hid (Ext w1 wr)) (fun _ iv _ => n - (intOf iv).toNat)
 case atStart => exact ⟨0, by omega, rfl, hide (OwnT.nil_ _ _), E1⟩
 case round =>
   clear E1
   obtain ⟨i, hi, rfl, HO, HE⟩ := hrel
   by_cases hlt : i < n
   · have d0 : decide ((i : Int) < (n : Int)) = true := decide_eq_true (by omega)
     have him : i < m.length := by rw [Hm.out]; exact hlt
     obtain ⟨bm, om, rfl, _, hc⟩ := (M1.out.ext HE.out).2.2 (by omega)
     have ct := (hc i him).2
     rw [← Nat.add_assoc] at ct
     have ix := fun w => idxS bm om n cap i hlt w
     have hst := takeT_succ (l := m.map Prod.snd) (k := i) (by rw [List.length_map]; exact him)
     have hget : (m.map Prod.snd).getD i 0 = (m.getD i (0, 0)).2 := by simp [List.getD_eq_getElem?_getD, him]
     have hx := (Hs.out.get i).2
     obtain ⟨x, hxx⟩ : ∃ x, (m.getD i (0, 0)).2 = x := ⟨_, rfl⟩
     rw [hxx] at ct hx hget
     rw [hget] at hst
     have hle : ((m.map Prod.snd).take i).length + [x].length ≤ 17592186044416 := by rw [List.length_take, List.length_map, Hm.out]; simp; omega
     have Hst := hide hst
     have O3 := hide (HO.out.alloc (.cells #[Value.int .i64 x] 2))
     have hone := hide (one_atT wr x hx _ rfl)
     have E3 := hide (Ext.trans HE.out (ext_alloc wr (.cells #[Value.int .i64 x] 2)))
     obtain ⟨T, hT⟩ : ∃ T, (m.map Prod.snd).take i = T := ⟨_, rfl⟩
     rw [hT] at O3 Hst hle
     clear hc him hst hget hxx hT HO HE
     go_wp2_with (at_builtin; refine wl_appendT rfl (.tmp 17) (.tmp 23) rfl w1.heap.size _ T [x] rfl O3.out _ 1 1 rfl hone.out rfl hle E3.out.size ?_; intro v6 w6 hO6 hG6 hA6)
     have O6 : Hid (OwnT w1.heap.size w6 v6 ((m.map Prod.snd).take (i + 1))) := by show OwnT _ _ _ _; rw [Hst.out]; exact hO6
     have E6 := hide (below_grownT E3.out (Nat.le_refl _) O3.out hG6)
     clear hO6 hG6 hA6 O3 E3
     go_roundw
     case rel => exact ⟨i + 1, by omega, by go_num, O6, E6⟩
     case measure => simp [intOf]; omega
   · obtain rfl : i = n := by omega
     have d0 : decide ((i : Int) < (i : Int)) = false := decide_eq_false (by omega)
     go_wp2_with fail
     go_ret
     have hO := HO.out
     rw [List.take_of_length_le (by rw [List.length_map, Hm.out]; omega)] at hO
     obtain ⟨A, c, hv, h1, h2, h3⟩ := hO.at_
     subst hv
     have hll : (m.map Prod.snd).length = i := by rw [List.length_map, Hm.out]
     exact ⟨A, _, c, _, rfl, rfl, by omega, h1, h2, hO.less hB1, T1.out.ext HE.out, U1.out.trans (Ext.upd HE.out b)⟩
end
section
open Go Go.RowKit Go.Sort
attribute [local go_sem] qUpon eUpon putE slE
theorem p_allVe (A : Option Addr) (n c : Nat) (l : List Int) (eps : Int) (W : World) (he : Tol eps) (hl : TimesAt W A l) (hn : l.length = n) (hn2 : n ≤ 1073741824) (r : List (Int × Int)) (nr : Nat) (hr : (allN eps l).map coN = r) (hnr : r.length = nr) :
   Calls Try.prog 18 #[.slice A n c, .int .i64 eps] W fun e w' => ∃ A1 c1, e = .returned (.tuple #[.slice A1 nr c1, .int .i64 0]) ∧ SampsAt w' A1 r ∧ Ext W w' := by
 have h := p_allGe A n c l eps W he hl hn hn2
 rw [hr] at h
 refine h.mono ?_
 rintro e w' ⟨A1, c1, rfl, hO, hE⟩
 exact ⟨A1, c1, by rw [hnr]; rfl, own_co hO, hE⟩
theorem co_getN {eps : Int} {l : List Int} {k : Nat} {s : Mn} (h : (allN eps l)[k]? = some s) : ((allN eps l).map coN).getD k (0, 0) = ((s.1 : Int), s.2.2.2 / (s.1 : Int)) := by
 simp [List.getD_eq_getElem?_getD, h, coN]
set_option maxRecDepth 100000 in
set_option maxHeartbeats 12800000 in
theorem law_emax (y : Option Addr) (len cap : Nat) (W : World) (hL : IsList W y len cap) :
   Calls Try.prog 6 #[.slice y len cap] W (Ret (.bool true) W) := by
 have KN : Hid (Calls Try.prog 7 #[.slice y len cap] W (NewPost W)) := t_new W y len cap hL
 have KL : Hid (∀ w, TapeOk W.heap.size w W.heap.size → Calls Try.prog 16 #[.pointer (some ⟨W.heap.size, 0, none⟩), .int .i64 30] w (ValsPost 30 W.heap.size W.heap.size w)) := hide (fun w h => t_values 30 W.heap.size W.heap.size (by omega) w h)
 have KT : Hid (∀ w, TapeOk W.heap.size w W.heap.size → Calls Try.prog 17 #[.pointer (some ⟨W.heap.size, 0, none⟩)] w (NextPost W.heap.size W.heap.size Tol .i64 w)) := hide (fun w h => t_tol W.heap.size W.heap.size w w h (Upd.refl _ _))
 have KK := hide (fun w => l_known16 w)
 have KC := hide (fun w => rw_ofi i64_0 w)
 clear hL
 go_enter Try.func6, Try.ntmps6
 go_upto_region 3 with (first
   | (go_at_call 7; (with_reducible refine (KN.out).mono ?_); rintro e w1 ⟨rfl, hT, hE⟩; have T1 := hide hT; have E1 := hide hE; have kl := hide (KL.out w1 hT); clear hT hE)
   | (go_at_call 16; (with_reducible refine (kl.out).mono ?_); rintro e w2 ⟨Am, nm, capm, m, rfl, hnm, hn30, hncap, hncap2, hO, hT2, hU2⟩; have hB2 : w1.heap.size ≤ w2.heap.size := hU2.2.2.2.1; have S2 := hide (Bt.of E1.out T1.out hO hT2 hU2); have kt := hide (KT.out w2 hT2); clear hO hT2 hU2 hncap hncap2)
   | (go_at_call 17; (with_reducible refine (kt.out).mono ?_); rintro e w3 ⟨tol, rfl, htol, T3, U3⟩; have S3 := hide (S2.out.upd U3 T3); have Htol := hide htol; clear htol T3 U3))
 obtain ⟨r, hr⟩ : ∃ r, (allN tol m).map coN = r := ⟨_, rfl⟩
 obtain ⟨nr, hnr⟩ : ∃ k, r.length = k := ⟨_, rfl⟩
 have k1 := hide (p_allVe Am nm capm m tol w3 Htol.out S3.out.times hnm (by omega) r nr hr hnr)
 have M3 : Hid (∀ w, Ext w3 w → TimesAt w Am m) := hide fun w h => S3.out.times.ext h
 have E3 := hide S3.out.e
 have HI := hide S3.out.times.1
 have Hr := hide hr
 have Hnm := hide hnm
 have Hnr : Hid ((allN tol m).length = nr) := hide (by rw [← hnr, ← hr, List.length_map])
 have hnr2 : nr ≤ 30 := by have := allN_le tol m; have := Hnr.out; omega
 have HS0 := hide (segC0 (eps := tol) Htol.out.1 m)
 clear KN KL KT kl kt T1 E1 S2 S3 hr hnr hnm
 go_upto_region 6 with (go_at_call 18; (with_reducible refine (k1.out).mono ?_); rintro e w4 ⟨A4, c4, rfl, h4, hE4⟩; have S4 := hide h4; have E4 := hide hE4; clear h4 hE4 k1)
 have EW : Hid (Ext w4 w4) := Ext.refl _
 go_loopw [8, 9] (fun av kv wr => ∃ k a : Nat, kv = .int .i64 (k : Int) ∧ av = .int .i64 (a : Int) ∧ k ≤ nr ∧ a ≤ nm ∧ Hid (SegC tol m (allN tol m) k a) ∧ Hid (Ext w4 wr)) (fun _ kv _ => nr - (intOf kv).toNat)
 case atStart => exact ⟨0, 0, rfl, rfl, by omega, by omega, HS0, EW⟩
 case round =>
   clear EW HS0
   obtain ⟨k, a, rfl, rfl, hk, ha, HS, HE⟩ := hrel
   have ek : IntKind.i64.wrap ((k : Int) + 1) = (k : Int) + 1 := by rw [IntKind.wrap_i64]; omega
   by_cases hlt : k + 1 < nr
   · have d0 : decide ((k : Int) + 1 < (nr : Int)) = true := decide_eq_true (by omega)
     obtain ⟨s, hq, hq1, hq2, hin, hfit, hmax, hS2⟩ := HS.out.next (by rw [Hnr.out]; omega)
     have hget := co_getN hq
     rw [Hr.out] at hget
     rw [Hnm.out] at hq2
     have hlast : a + s.1 < nm := by
       obtain ⟨s', _, h1, h2, _⟩ := hS2.next (by rw [Hnr.out]; exact hlt)
       rw [Hnm.out] at h2
       omega
     obtain ⟨y', hy'⟩ : ∃ z, m[a + s.1]? = some z := ⟨m[a + s.1]'(by rw [Hnm.out]; exact hlast), List.getElem?_eq_getElem _⟩
     have hall := all_not Htol.out.1 hin hy' (hmax y' hy')
     obtain ⟨q, hqs⟩ : ∃ z, s.1 = z := ⟨_, rfl⟩
     rw [hqs] at hq1 hq2 hall hget hS2 hlast
     have hrl : r.length = nr := by rw [← Hr.out, List.length_map]; exact Hnr.out
     obtain ⟨b1, o1, rfl, _, hc⟩ := (S4.out.ext HE.out).2.2 (by omega)
     have p1 := (hc k (by omega)).1
     rw [hget] at p1
     dsimp only at p1
     obtain ⟨kx, hkx⟩ : ∃ z, o1 + 2 * k = z := ⟨_, rfl⟩
     have L0 : Hid (∀ w, Ext wr w → w.cell? ⟨b1, kx, none⟩ = some (.int .i64 (q : Int))) := hide fun w h => by
       obtain ⟨b', o', hA, hb', _⟩ := (S4.out.ext HE.out).2.2 (by omega)
       cases hA
       rw [← hkx]
       exact (h.cell (p := ⟨b1, o1 + 2 * k, none⟩) hb').trans p1
     have iL : Hid (∀ w, (Instr.indexAt 46 (.slice (some ⟨b1, o1, none⟩) nr c4) (.int .i64 (k : Int))).run Try.prog w = .ok (.pointer (some ⟨b1, kx, none⟩)) w) := hide fun w => by rw [← hkx]; exact idxC b1 o1 nr c4 k (by omega) w
     obtain ⟨bm, om, rfl, _, hcm⟩ := (M3.out wr (E4.out.trans HE.out)).2.2 (by rw [Hnm.out]; omega)
     have CM : Hid (∀ w, Ext wr w → ∀ j, j < nm → w.cell? ⟨bm, om + j, none⟩ = some (.int .i64 (m.getD j 0))) := hide fun w h j hj => by
       obtain ⟨b', o', hA, hb', _⟩ := (M3.out wr (E4.out.trans HE.out)).2.2 (by rw [Hnm.out]; omega)
       cases hA
       exact (h.cell (p := ⟨bm, om + j, none⟩) hb').trans (hcm j (by rw [Hnm.out]; exact hj))
     have IX : Hid (∀ j, j < nm → ∀ w, (Instr.indexAt 43 (.slice (some ⟨bm, om, none⟩) nm capm) (.int .i64 (j : Int))).run Try.prog w = .ok (.pointer (some ⟨bm, om + j, none⟩)) w) := hide fun j hj w => idxT bm om nm capm j hj w
     have g1 : decide ((q : Int) < 1) = false := decide_eq_false (by omega)
     obtain ⟨rd, hrd⟩ : ∃ z : Nat, nm - a = z := ⟨_, rfl⟩
     have e1 : IntKind.i64.wrap ((nm : Int) - (a : Int)) = (rd : Int) := by rw [IntKind.wrap_i64]; omega
     have g2 : decide ((rd : Int) ≤ (q : Int)) = false := decide_eq_false (by omega)
     have g2n : decide (rd ≤ q) = false := decide_eq_false (by omega)
     obtain ⟨q1, hq1'⟩ : ∃ z : Nat, q + 1 = z := ⟨_, rfl⟩
     have eq1 : IntKind.i64.wrap ((q : Int) + 1) = (q1 : Int) := by rw [IntKind.wrap_i64]; omega
     have ea1 : IntKind.i64.wrap ((a : Int) + (q : Int)) = ((a + q : Nat) : Int) := by rw [IntKind.wrap_i64]; omega
     rw [hq1'] at hall
     have Hall := hide hall
     have HS2 := hide hS2
     have Hq1 := hide hq1'
     have i64q1 : I64 (q1 : Int) := ⟨by omega, by omega⟩
     obtain ⟨wo, hwo⟩ : ∃ wo, wo = wr := ⟨_, rfl⟩
     subst hwo
     have EO := hide (E4.out.trans HE.out)
     have HE0 := HE
     clear hc hcm hget hrl hq hin hfit hmax hy' hall hS2 hq1' hqs hkx p1 hrd HS HE
     have EE : Hid (Ext wo wo) := Ext.refl _
     go_upto_region 8 with fail
     refine wp_evsA [.q, .q, .q, .q, .q, .q] [0, 0, 0, 0, 0, 0] (fun R => [.slice (some ⟨b1, o1, none⟩) nr c4, .int .i64 (k : Int), .pointer (some ⟨b1, kx, none⟩), .pointer (some ⟨b1, kx, none⟩), .int .i64 (q : Int), .int .i64 (q : Int)]) (fun _ => (.cells #[] 0 (0, 0))) (fun R _ => (.cells #[] 0 (0, 0))) (fun _ => 0) (XE wo) (fun _ => False) _ (fun R G => { tmps := #[.slice y len cap, undef, u2, .pointer (some ⟨W.heap.size, 0, none⟩), .slice (some ⟨bm, om, none⟩) nm capm, .int .i64 tol, .slice (some ⟨b1, o1, none⟩) nr c4, .int .i64 0, .int .i64 (a : Int), .int .i64 (k : Int), .int .i64 (q : Int), u11, u12, u13, u14, u15, u16, u17, u18, u19, .slice y len cap, .pointer (some ⟨W.heap.size, 0, none⟩), .pointer (some ⟨W.heap.size, 0, none⟩), .slice (some ⟨bm, om, none⟩) nm capm, .pointer (some ⟨W.heap.size, 0, none⟩), .int .i64 tol, .tuple #[.slice (some ⟨b1, o1, none⟩) nr c4, .int .i64 0], .slice (some ⟨bm, om, none⟩) nm capm, .int .i64 tol, .tuple #[.slice (some ⟨b1, o1, none⟩) nr c4, .int .i64 0], .slice (some ⟨b1, o1, none⟩) nr c4, .int .i64 0, .int .i64 (k : Int), .int .i64 ((k : Int) + 1), .slice (some ⟨b1, o1, none⟩) nr c4, .int .i64 (nr : Int), .bool true, u37, u38, .slice (some ⟨b1, o1, none⟩) nr c4, .int .i64 (k : Int), .pointer (some ⟨b1, kx, none⟩), .pointer (some ⟨b1, kx, none⟩), .int .i64 (q : Int), u44, u45, u46, u47, u48, u49, u50, u51, u52, u53, u54, u55, u56, u57, u58, u59, u60, u61, u62, u63, u64, u65, u66, u67, u68, u69, u70, u71, u72, u73, u74, u75, u76, u77, u78, u79, u80, u81, u82, u83, u84, u85, u86, u87, u88, u89, u90, u91, u92, u93, u94, u95, u96, u97, u98, u99, u100, u101, u102, u103, u104, u105, u106, undef, undef, undef, undef, undef], defers := [] }) (by intro R G; kernel_rfl) (fun _ => rfl) (by kernel_rfl) (by kernel_rfl) (by kernel_rfl) rfl (fun _ => rfl) (fun _ h => h.elim) (fun _ _ h => h) (by simp) (by simp) (fun R R' => ⟨fun _ => rfl, fun _ => rfl, fun _ => rfl, fun _ => rfl, fun _ => rfl, fun _ => rfl, trivial⟩) (fun _ _ _ _ => rfl) xe_below EE.out ?ops6 ?end6
     case ops6 =>
       refine ⟨?_, ?_, ?_, ?_, ?_, ?_, trivial⟩
       · refine er_q ?vn1 ?hn1 ?kn1 ?gn1 ?_
         case hn1 => exact rfl
         case vn1 => exact (fun R => .slice (some ⟨b1, o1, none⟩) nr c4)
         case kn1 => exact (fun R => rfl)
         case gn1 => exact gd_none rfl
         intro R s w' hT hs hw ha
         go_simp
       · refine er_q ?vn2 ?hn2 ?kn2 ?gn2 ?_
         case hn2 => exact rfl
         case vn2 => exact (fun R => .int .i64 (k : Int))
         case kn2 => exact (fun R => rfl)
         case gn2 => exact gd_none rfl
         intro R s w' hT hs hw ha
         go_simp
       · refine er_q ?vn3 ?hn3 ?kn3 ?gn3 ?_
         case hn3 => exact rfl
         case vn3 => exact (fun R => .pointer (some ⟨b1, kx, none⟩))
         case kn3 => exact (fun R => rfl)
         case gn3 => exact gd_none rfl
         intro R s w' hT hs hw ha
         refine q_idx rfl ?_ ?_ (iL.out w')
         · kernel_rfl
         · kernel_rfl
       · refine er_q ?vn4 ?hn4 ?kn4 ?gn4 ?_
         case hn4 => exact rfl
         case vn4 => exact (fun R => .pointer (some ⟨b1, kx, none⟩))
         case kn4 => exact (fun R => rfl)
         case gn4 => exact gd_none rfl
         intro R s w' hT hs hw ha
         go_simp
       · refine er_q ?vn5 ?hn5 ?kn5 ?gn5 ?_
         case hn5 => exact rfl
         case vn5 => exact (fun R => .int .i64 (q : Int))
         case kn5 => exact (fun R => rfl)
         case gn5 => exact gd_none rfl
         intro R s w' hT hs hw ha
         have cc := L0.out w' hT
         go_simp
       · refine er_q ?vn6 ?hn6 ?kn6 ?gn6 ?_
         case hn6 => exact rfl
         case vn6 => exact (fun R => .int .i64 (q : Int))
         case kn6 => exact (fun R => rfl)
         case gn6 => exact gd_none rfl
         intro R s w' hT hs hw ha
         go_simp
     case end6 =>
      intro sI R G w7 hI FF hFF
      have hS := hI.same
      have hTT := hI.holds
      have hz0 := EE.out.size
      replace EE := hide (show Ext _ _ from hTT)
      clear hS hz0 hTT hI 
      dsimp only at hFF
      subst hFF
      go_upto_region 9 with fail
      refine wp_region_reads ?_
      repeat (first | go_big_quiet_step (fail) | quiet_step (fail))
      refine wpQuiet_nil ?_
      intro _ hw'
      obtain ⟨⟨dq, osq⟩, hw''⟩ := hw'
      subst hw''
      replace EE := hide (EE.out.trans (ext_regrown w7 dq osq))
      obtain ⟨w9, hzq8⟩ : ∃ w, grow (redrawn w7 dq) osq = w := ⟨_, rfl⟩
      rw [hzq8] at EE  ⊢
      clear hzq8
      go_upto_region 11 with fail
      refine wp_evsA [.q, .al, .st 1] [0, 0, 0] (fun R => [.agg (wCe 0), undef, undef]) (fun _ => (.cells z5 25 (0, 0))) (fun R _ => (.cells (wCe 0) 25 (0, 0))) (fun _ => 0) (XE wo) (fun _ => False) _ (fun R G => { tmps := #[.slice y len cap, undef, u2, .pointer (some ⟨W.heap.size, 0, none⟩), .slice (some ⟨bm, om, none⟩) nm capm, .int .i64 tol, .slice (some ⟨b1, o1, none⟩) nr c4, .int .i64 0, .int .i64 (a : Int), .int .i64 (k : Int), .int .i64 (q : Int), .pointer (some ⟨G 1, 0, none⟩), u12, u13, u14, u15, u16, u17, u18, u19, .slice y len cap, .pointer (some ⟨W.heap.size, 0, none⟩), .pointer (some ⟨W.heap.size, 0, none⟩), .slice (some ⟨bm, om, none⟩) nm capm, .pointer (some ⟨W.heap.size, 0, none⟩), .int .i64 tol, .tuple #[.slice (some ⟨b1, o1, none⟩) nr c4, .int .i64 0], .slice (some ⟨bm, om, none⟩) nm capm, .int .i64 tol, .tuple #[.slice (some ⟨b1, o1, none⟩) nr c4, .int .i64 0], .slice (some ⟨b1, o1, none⟩) nr c4, .int .i64 0, .int .i64 (k : Int), .int .i64 ((k : Int) + 1), .slice (some ⟨b1, o1, none⟩) nr c4, .int .i64 (nr : Int), .bool true, u37, u38, .slice (some ⟨b1, o1, none⟩) nr c4, .int .i64 (k : Int), .pointer (some ⟨b1, kx, none⟩), .pointer (some ⟨b1, kx, none⟩), .int .i64 (q : Int), .int .i64 (q : Int), .bool false, .bool false, .int .i64 (q : Int), .slice (some ⟨bm, om, none⟩) nm capm, .int .i64 (nm : Int), .int .i64 (a : Int), .int .i64 (rd : Int), .bool false, .bool false, .agg (wCe 0), u55, u56, u57, u58, u59, u60, u61, u62, u63, u64, u65, u66, u67, u68, u69, u70, u71, u72, u73, u74, u75, u76, u77, u78, u79, u80, u81, u82, u83, u84, u85, u86, u87, u88, u89, u90, u91, u92, u93, u94, u95, u96, u97, u98, u99, u100, u101, u102, u103, u104, u105, u106, undef, undef, undef, undef, undef], defers := [] }) (by intro R G; kernel_rfl) (fun _ => rfl) (by kernel_rfl) (by kernel_rfl) (by kernel_rfl) rfl (fun _ => rfl) (fun _ h => h.elim) (fun _ _ h => h) (by simp) (by simp) (fun R R' => ⟨fun _ => rfl, fun _ => rfl, fun _ => rfl, trivial⟩) (fun _ _ _ _ => rfl) xe_below EE.out ?ops12 ?end12
      case ops12 =>
        refine ⟨?_, ?_, ?_, trivial⟩
        · refine er_q ?vn10 ?hn10 ?kn10 ?gn10 ?_
          case hn10 => exact rfl
          case vn10 => exact (fun R => .agg (wCe 0))
          case kn10 => exact (fun R => rfl)
          case gn10 => exact gd_none rfl
          intro R s w' hT hs hw ha
          go_simp
          exact KC.out w'
        · refine er_al ?zn11 ?hn11 ?kn11 ?gn11 ?_
          case zn11 => exact (.cells z5 25 (0, 0))
          case hn11 => exact rfl
          case kn11 => exact rfl
          case gn11 => exact gd_none rfl
          intro ρ w'
          go_simp
          exact ⟨rfl, rfl⟩
        · refine er_st (j := 1) (Ty := ?Tn12) (p := ?pn12) (x := ?xn12) ?fn12 ?zn12 ?vn12 ?hn12 ?on12 ?kn12 ?ln12 ?gn12 ?en12 ?_
          case hn12 => exact rfl
          case on12 => exact rfl
          case fn12 => exact (fun R => (.cells (wCe 0) 25 (0, 0)))
          case zn12 => exact (.cells z5 25 (0, 0))
          case vn12 => exact (fun R => .agg (wCe 0))
          case kn12 => exact (fun R => rfl)
          case ln12 => exact rfl
          case gn12 => exact gd_none rfl
          case en12 =>
            intro R
            kernel_rfl
          intro R s ρ w g hT hs hp hx hg hz
          exact ⟨store_row rfl hp hx hz iWide ((wC_size 0)) ((wC_onee 0)), fun w1 hF => ext_filled hT hF (Nat.le_trans EE.out.size hg)⟩
      case end12 =>
       intro sI R G w13 hI FF hFF
       have hS := hI.same
       have hTT := hI.holds
       have hz0 := EE.out.size
       have P11 : Blk w13 (G 1) 25 (wCe 0) := (hI.fulls 2 (List.mem_range.2 (show 2 < 3 by decide)) 1 rfl).2.2
       have hmP11 := (hI.made 1 (List.mem_range.2 (show 1 < 3 by decide)) rfl).1
       have P11_lo : wo.heap.size ≤ G 1 := Nat.le_trans hz0 hmP11
       replace EE := hide (show Ext _ _ from hTT)
       clear hS hz0 hTT hI 
       dsimp only at hFF
       subst hFF
       generalize G 1 = g11 at *
       have P11' : Hid (Blk w13 g11 25 (wCe (SmN m a 0))) := by rw [smN_0]; exact P11
       have EE1 := EE
       clear EE P11
       go_wp2_with fail
       go_loopw [12] (fun jv wr => ∃ j : Nat, j ≤ q1 ∧ jv = .int .i64 (j : Int) ∧ Hid (Blk wr g11 25 (wCe (SmN m a j))) ∧ Hid (Ext wo wr)) (fun jv _ => q1 - (intOf jv).toNat)
       case atStart => exact ⟨0, Nat.zero_le _, rfl, P11', EE1⟩
       case round =>
         obtain ⟨j, hj, rfl, HP, EE⟩ := hrel
         have P11 := HP.out
         have Hq2 := Hq1.out
         by_cases hjq : j < q1
         · have d3 : decide ((j : Int) ≤ (q : Int)) = true := decide_eq_true (by omega)
           have d3n : decide (j ≤ q) = true := decide_eq_true (by omega)
           obtain ⟨aj, haj⟩ : ∃ z, a + j = z := ⟨_, rfl⟩
           have hajn : aj < nm := by omega
           obtain ⟨sj, hsj⟩ : ∃ z, om + aj = z := ⟨_, rfl⟩
           have Y0 : Hid (∀ w, Ext wo w → w.cell? ⟨bm, sj, none⟩ = some (.int .i64 (m.getD aj 0))) := hide fun w h => by rw [← hsj]; exact CM.out w h aj hajn
           have iY : Hid (∀ w, (Instr.indexAt 43 (.slice (some ⟨bm, om, none⟩) nm capm) (.int .i64 (aj : Int))).run Try.prog w = .ok (.pointer (some ⟨bm, sj, none⟩)) w) := hide fun w => by rw [← hsj]; exact IX.out aj hajn w
           have w4' : IntKind.i64.wrap ((a : Int) + (j : Int)) = (aj : Int) := by rw [IntKind.wrap_i64]; omega
           have hlj := getT (l := m) (j := aj) (by rw [Hnm.out]; exact hajn)
           have ixj := HI.out.get aj
           obtain ⟨xj, hxj⟩ : ∃ z, m.getD aj 0 = z := ⟨_, rfl⟩
           rw [hxj] at Y0 hlj ixj
           rw [← haj] at hlj
           have hnx := smN_next hlj
           have f0 := smN_size HI.out a (j := j) (by omega)
           have f1 := smN_size HI.out a (j := j + 1) (by omega)
           have k1 := hide fun w => rw_ofi ixj w
           have k2 := hide fun w => rw_add f0 (f64 ixj) hnx.symm f1 w
           have w5' : IntKind.i64.wrap ((j : Int) + 1) = ((j + 1 : Nat) : Int) := by rw [IntKind.wrap_i64]; omega
           obtain ⟨S0, hS0⟩ : ∃ z, SmN m a j = z := ⟨_, rfl⟩
           obtain ⟨S1, hS1⟩ : ∃ z, SmN m a (j + 1) = z := ⟨_, rfl⟩
           rw [hS0] at k2 P11
           rw [hS1] at k2
           have HS1 := hide hS1
           clear hS0 hS1 hnx f0 f1 hlj hsj haj hxj HP
           go_upto_region 15 with fail
           have P11_lt := P11.lt
           refine wp_evA [.q, .q, .q, .q, .q, .q, .q, .q, .q, .q, .q, .q, .so 0] [0, 0, 0, 0, 0, 0, 0, 0, 0, 0, 0, 0, 0] (fun R => [.agg (wCe S0), .slice (some ⟨bm, om, none⟩) nm capm, .int .i64 (a : Int), .int .i64 (j : Int), .int .i64 (aj : Int), .pointer (some ⟨bm, sj, none⟩), .int .i64 xj, .agg (wCe xj), .tuple #[.agg (wCe S1), .bool true], .tuple #[.agg (wCe S1), .bool true], .agg (wCe S1), .bool true, undef]) (fun _ => (.cells #[] 0 (0, 0))) (fun R _ => (.cells (wCe S1) 25 (0, 0))) (fun _ => g11) (XE wo) (fun _ => False) _ (fun R G => { tmps := #[.slice y len cap, undef, u2, .pointer (some ⟨W.heap.size, 0, none⟩), .slice (some ⟨bm, om, none⟩) nm capm, .int .i64 tol, .slice (some ⟨b1, o1, none⟩) nr c4, .int .i64 0, .int .i64 (a : Int), .int .i64 (k : Int), .int .i64 (q : Int), .pointer (some ⟨g11, 0, none⟩), .int .i64 (j : Int), u13, u14, u15, u16, u17, u18, u19, .slice y len cap, .pointer (some ⟨W.heap.size, 0, none⟩), .pointer (some ⟨W.heap.size, 0, none⟩), .slice (some ⟨bm, om, none⟩) nm capm, .pointer (some ⟨W.heap.size, 0, none⟩), .int .i64 tol, .tuple #[.slice (some ⟨b1, o1, none⟩) nr c4, .int .i64 0], .slice (some ⟨bm, om, none⟩) nm capm, .int .i64 tol, .tuple #[.slice (some ⟨b1, o1, none⟩) nr c4, .int .i64 0], .slice (some ⟨b1, o1, none⟩) nr c4, .int .i64 0, .int .i64 (k : Int), .int .i64 ((k : Int) + 1), .slice (some ⟨b1, o1, none⟩) nr c4, .int .i64 (nr : Int), .bool true, u37, u38, .slice (some ⟨b1, o1, none⟩) nr c4, .int .i64 (k : Int), .pointer (some ⟨b1, kx, none⟩), .pointer (some ⟨b1, kx, none⟩), .int .i64 (q : Int), .int .i64 (q : Int), .bool false, .bool false, .int .i64 (q : Int), .slice (some ⟨bm, om, none⟩) nm capm, .int .i64 (nm : Int), .int .i64 (a : Int), .int .i64 (rd : Int), .bool false, .bool false, .agg (wCe 0), .int .i64 (j : Int), .int .i64 (q : Int), .bool true, u58, u59, .tuple #[.agg (wCe S1), .bool true], .agg (wCe S0), .slice (some ⟨bm, om, none⟩) nm capm, .int .i64 (a : Int), .int .i64 (j : Int), .int .i64 (aj : Int), .pointer (some ⟨bm, sj, none⟩), .int .i64 xj, .agg (wCe xj), .tuple #[.agg (wCe S1), .bool true], .agg (wCe S1), .bool true, u72, u73, u74, u75, u76, u77, u78, u79, u80, u81, u82, u83, u84, u85, u86, u87, u88, u89, u90, u91, u92, u93, u94, u95, u96, u97, u98, u99, u100, u101, u102, u103, u104, u105, u106, undef, undef, undef, undef, undef], defers := [] }) (by intro R G; kernel_rfl) (fun _ => rfl) (by kernel_rfl) (by kernel_rfl) (by kernel_rfl) (by kernel_rfl) rfl (fun _ => rfl) (fun _ h => h.elim) (fun _ _ h => h) (by intro c hc; simp at hc; (try subst hc); (try simp only); omega) (by intro c c' h1 h2 _; simp at h1 h2; omega) (fun R R' => ⟨fun _ => rfl, fun _ => rfl, fun _ => rfl, fun _ => rfl, fun _ => rfl, fun _ => rfl, fun _ => rfl, fun _ => rfl, fun _ => rfl, fun _ => rfl, fun _ => rfl, fun _ => rfl, fun _ => rfl, trivial⟩) (fun _ _ _ _ => rfl) xe_below (EE.out.trans (ext_drew _)) ?ops26 ?end26
           case ops26 =>
             refine ⟨?_, ?_, ?_, ?_, ?_, ?_, ?_, ?_, ?_, ?_, ?_, ?_, ?_, trivial⟩
             · refine er_q ?vn14 ?hn14 ?kn14 ?gn14 ?_
               case hn14 => exact rfl
               case vn14 => exact (fun R => .agg (wCe S0))
               case kn14 => exact (fun R => rfl)
               case gn14 => exact gd_none rfl
               intro R s w' hT hs hw ha
               have L := ld_all ((ha 12 0 rfl (by kernel_rfl)).trans P11) uWide rfl iWide (wC_size S0)
               refine q_load rfl ?_ L
               kernel_rfl
             · refine er_q ?vn15 ?hn15 ?kn15 ?gn15 ?_
               case hn15 => exact rfl
               case vn15 => exact (fun R => .slice (some ⟨bm, om, none⟩) nm capm)
               case kn15 => exact (fun R => rfl)
               case gn15 => exact gd_none rfl
               intro R s w' hT hs hw ha
               go_simp
             · refine er_q ?vn16 ?hn16 ?kn16 ?gn16 ?_
               case hn16 => exact rfl
               case vn16 => exact (fun R => .int .i64 (a : Int))
               case kn16 => exact (fun R => rfl)
               case gn16 => exact gd_none rfl
               intro R s w' hT hs hw ha
               go_simp
             · refine er_q ?vn17 ?hn17 ?kn17 ?gn17 ?_
               case hn17 => exact rfl
               case vn17 => exact (fun R => .int .i64 (j : Int))
               case kn17 => exact (fun R => rfl)
               case gn17 => exact gd_none rfl
               intro R s w' hT hs hw ha
               go_simp
             · refine er_q ?vn18 ?hn18 ?kn18 ?gn18 ?_
               case hn18 => exact rfl
               case vn18 => exact (fun R => .int .i64 (aj : Int))
               case kn18 => exact (fun R => rfl)
               case gn18 => exact gd_none rfl
               intro R s w' hT hs hw ha
               go_simp
             · refine er_q ?vn19 ?hn19 ?kn19 ?gn19 ?_
               case hn19 => exact rfl
               case vn19 => exact (fun R => .pointer (some ⟨bm, sj, none⟩))
               case kn19 => exact (fun R => rfl)
               case gn19 => exact gd_none rfl
               intro R s w' hT hs hw ha
               refine q_idx rfl ?_ ?_ (iY.out w')
               · kernel_rfl
               · kernel_rfl
             · refine er_q ?vn20 ?hn20 ?kn20 ?gn20 ?_
               case hn20 => exact rfl
               case vn20 => exact (fun R => .int .i64 xj)
               case kn20 => exact (fun R => rfl)
               case gn20 => exact gd_none rfl
               intro R s w' hT hs hw ha
               have cc := Y0.out w' hT
               go_simp
             · refine er_q ?vn21 ?hn21 ?kn21 ?gn21 ?_
               case hn21 => exact rfl
               case vn21 => exact (fun R => .agg (wCe xj))
               case kn21 => exact (fun R => rfl)
               case gn21 => exact gd_none rfl
               intro R s w' hT hs hw ha
               go_simp
               exact k1.out w'
             · refine er_q ?vn22 ?hn22 ?kn22 ?gn22 ?_
               case hn22 => exact rfl
               case vn22 => exact (fun R => .tuple #[.agg (wCe S1), .bool true])
               case kn22 => exact (fun R => rfl)
               case gn22 => exact gd_none rfl
               intro R s w' hT hs hw ha
               go_simp
               exact k2.out w'
             · refine er_q ?vn23 ?hn23 ?kn23 ?gn23 ?_
               case hn23 => exact rfl
               case vn23 => exact (fun R => .tuple #[.agg (wCe S1), .bool true])
               case kn23 => exact (fun R => rfl)
               case gn23 => exact gd_none rfl
               intro R s w' hT hs hw ha
               go_simp
             · refine er_q ?vn24 ?hn24 ?kn24 ?gn24 ?_
               case hn24 => exact rfl
               case vn24 => exact (fun R => .agg (wCe S1))
               case kn24 => exact (fun R => rfl)
               case gn24 => exact gd_none rfl
               intro R s w' hT hs hw ha
               go_simp
             · refine er_q ?vn25 ?hn25 ?kn25 ?gn25 ?_
               case hn25 => exact rfl
               case vn25 => exact (fun R => .bool true)
               case kn25 => exact (fun R => rfl)
               case gn25 => exact gd_none rfl
               intro R s w' hT hs hw ha
               go_simp
             · refine er_so (c := 0) (Ty := ?Tn26) (p := ?pn26) (x := ?xn26) g11 ?fn26 ?un26 ?vn26 ?hn26 ?on26 ?kn26 ?ln26 ?gn26 ?dn26 ?en26 ?_
               case hn26 => exact rfl
               case on26 => exact rfl
               case fn26 => exact (fun R => (.cells (wCe S1) 25 (0, 0)))
               case un26 => exact (fun R => .pointer (some ⟨g11, 0, none⟩))
               case vn26 => exact (fun R => .agg (wCe S1))
               case kn26 => exact (fun R => rfl)
               case ln26 => exact rfl
               case gn26 => exact gd_none rfl
               case dn26 =>
                 intro R
                 kernel_rfl
               case en26 =>
                 intro R
                 kernel_rfl
               intro R s ρ w hT hs hp hx hz
               refine ⟨store_rowN (g := g11) rfl hp hx (hz.trans P11) iWide ((wC_size S0)) ((wC_size S1)) ((wC_onee S1)), fun w1 hF => ext_filled hT hF P11_lo⟩
           case end26 =>
            intro sI R G w27 hI FF hFF
            have hS := hI.same
            have hTT := hI.holds
            have hz0 := EE.out.size
            replace P11 : Blk w27 g11 25 (wCe S1) := hI.olds' 12 (List.mem_range.2 (show 12 < 13 by decide)) 0 rfl
            replace EE := hide (show Ext _ _ from hTT)
            clear hS hz0 hTT hI P11_lt
            dsimp only at hFF
            subst hFF
            go_wp2_with fail
            go_roundw
            case rel => exact ⟨j + 1, by omega, by go_num, by rw [HS1.out]; exact hide P11, EE⟩
            case measure => simp [intOf]; omega
         · have d3 : decide ((j : Int) ≤ (q : Int)) = false := decide_eq_false (by omega)
           have d3n : decide (j ≤ q) = false := decide_eq_false (by omega)
           obtain rfl : j = q1 := by omega
           have f0 := smN_size HI.out a (j := j) (by omega)
           have iq := mean_64 (a := a) (n := j) HI.out (by omega) (by rw [Hnm.out]; omega)
           obtain ⟨SS, hSS⟩ : ∃ z, SmN m a j = z := ⟨_, rfl⟩
           rw [hSS] at f0 iq P11
           obtain ⟨mn, hmn⟩ : ∃ z, SS / (j : Int) = z := ⟨_, rfl⟩
           obtain ⟨rm, hrm⟩ : ∃ z, SS % (j : Int) = z := ⟨_, rfl⟩
           rw [hmn] at iq
           have k1 := hide fun w => rw_ofi i64q1 w
           have k2 := hide fun w => rw_div f0 (f64 i64q1) (by omega) hmn hrm w
           have k3 := hide fun w => rw_i64 (f64 iq) iq w
           have Hal2 : Hid (AllN m a mn tol j = false) := hide (by rw [← hmn, ← hSS]; exact Hall.out)
           have Himn := hide iq
           clear f0 iq hSS hmn hrm HP Hall
           go_upto_region 16 with fail
           have P11_lt := P11.lt
           refine wp_evA [.q, .q, .q, .q, .q, .q, .q, .q, .q, .al, .al, .st 9, .st 10, .q] [0, 0, 0, 0, 0, 0, 0, 0, 0, 0, 0, 0, 0, 0] (fun R => [.agg (wCe SS), .int .i64 (q : Int), .int .i64 (j : Int), .agg (wCe (j : Int)), .tuple #[.agg (wCe mn), .agg (wCe rm), .bool true], .tuple #[.agg (wCe mn), .agg (wCe rm), .bool true], .agg (wCe mn), .agg (wCe rm), .bool true, undef, undef, undef, undef, .bool true]) (fun i => match i with | 9 => (.cells z5 25 (0, 0)) | _ => (.cells z5 25 (0, 0))) (fun R i => match i with | 11 => (.cells (wCe mn) 25 (0, 0)) | _ => (.cells (wCe rm) 25 (0, 0))) (fun _ => 0) (XE wo) (fun _ => False) _ (fun R G => { tmps := #[.slice y len cap, undef, u2, .pointer (some ⟨W.heap.size, 0, none⟩), .slice (some ⟨bm, om, none⟩) nm capm, .int .i64 tol, .slice (some ⟨b1, o1, none⟩) nr c4, .int .i64 0, .int .i64 (a : Int), .int .i64 (k : Int), .int .i64 (q : Int), .pointer (some ⟨g11, 0, none⟩), .int .i64 (j : Int), .pointer (some ⟨G 9, 0, none⟩), .pointer (some ⟨G 10, 0, none⟩), .bool true, u16, u17, u18, u19, .slice y len cap, .pointer (some ⟨W.heap.size, 0, none⟩), .pointer (some ⟨W.heap.size, 0, none⟩), .slice (some ⟨bm, om, none⟩) nm capm, .pointer (some ⟨W.heap.size, 0, none⟩), .int .i64 tol, .tuple #[.slice (some ⟨b1, o1, none⟩) nr c4, .int .i64 0], .slice (some ⟨bm, om, none⟩) nm capm, .int .i64 tol, .tuple #[.slice (some ⟨b1, o1, none⟩) nr c4, .int .i64 0], .slice (some ⟨b1, o1, none⟩) nr c4, .int .i64 0, .int .i64 (k : Int), .int .i64 ((k : Int) + 1), .slice (some ⟨b1, o1, none⟩) nr c4, .int .i64 (nr : Int), .bool true, u37, u38, .slice (some ⟨b1, o1, none⟩) nr c4, .int .i64 (k : Int), .pointer (some ⟨b1, kx, none⟩), .pointer (some ⟨b1, kx, none⟩), .int .i64 (q : Int), .int .i64 (q : Int), .bool false, .bool false, .int .i64 (q : Int), .slice (some ⟨bm, om, none⟩) nm capm, .int .i64 (nm : Int), .int .i64 (a : Int), .int .i64 (rd : Int), .bool false, .bool false, .agg (wCe 0), .int .i64 (j : Int), .int .i64 (q : Int), .bool false, u58, u59, u60, u61, u62, u63, u64, u65, u66, u67, u68, u69, u70, u71, .tuple #[.agg (wCe mn), .agg (wCe rm), .bool true], .agg (wCe SS), .int .i64 (q : Int), .int .i64 (j : Int), .agg (wCe (j : Int)), .tuple #[.agg (wCe mn), .agg (wCe rm), .bool true], .agg (wCe mn), .agg (wCe rm), .bool true, u81, u82, u83, u84, u85, u86, u87, u88, u89, u90, u91, u92, u93, u94, u95, u96, u97, u98, u99, u100, u101, u102, u103, u104, u105, u106, undef, undef, undef, undef, undef], defers := [] }) (by intro R G; kernel_rfl) (fun _ => rfl) (by kernel_rfl) (by kernel_rfl) (by kernel_rfl) (by kernel_rfl) rfl (fun _ => rfl) (fun _ h => h.elim) (fun _ _ h => h) (by simp) (by simp) (fun R R' => ⟨fun _ => rfl, fun _ => rfl, fun _ => rfl, fun _ => rfl, fun _ => rfl, fun _ => rfl, fun _ => rfl, fun _ => rfl, fun _ => rfl, fun _ => rfl, fun _ => rfl, fun _ => rfl, fun _ => rfl, fun _ => rfl, trivial⟩) (fun _ _ _ _ => rfl) xe_below (EE.out.trans (ext_drew _)) ?ops627 ?end627
           case ops627 =>
             refine ⟨?_, ?_, ?_, ?_, ?_, ?_, ?_, ?_, ?_, ?_, ?_, ?_, ?_, ?_, trivial⟩
             · refine er_q ?vn614 ?hn614 ?kn614 ?gn614 ?_
               case hn614 => exact rfl
               case vn614 => exact (fun R => .agg (wCe SS))
               case kn614 => exact (fun R => rfl)
               case gn614 => exact gd_none rfl
               intro R s w' hT hs hw ha
               have L := ld_all (P11.sameE hw (fun h => h) (by simp)) uWide rfl iWide (wC_size SS)
               refine q_load rfl ?_ L
               kernel_rfl
             · refine er_q ?vn615 ?hn615 ?kn615 ?gn615 ?_
               case hn615 => exact rfl
               case vn615 => exact (fun R => .int .i64 (q : Int))
               case kn615 => exact (fun R => rfl)
               case gn615 => exact gd_none rfl
               intro R s w' hT hs hw ha
               go_simp
             · refine er_q ?vn616 ?hn616 ?kn616 ?gn616 ?_
               case hn616 => exact rfl
               case vn616 => exact (fun R => .int .i64 (j : Int))
               case kn616 => exact (fun R => rfl)
               case gn616 => exact gd_none rfl
               intro R s w' hT hs hw ha
               go_simp
             · refine er_q ?vn617 ?hn617 ?kn617 ?gn617 ?_
               case hn617 => exact rfl
               case vn617 => exact (fun R => .agg (wCe (j : Int)))
               case kn617 => exact (fun R => rfl)
               case gn617 => exact gd_none rfl
               intro R s w' hT hs hw ha
               go_simp
               exact k1.out w'
             · refine er_q ?vn618 ?hn618 ?kn618 ?gn618 ?_
               case hn618 => exact rfl
               case vn618 => exact (fun R => .tuple #[.agg (wCe mn), .agg (wCe rm), .bool true])
               case kn618 => exact (fun R => rfl)
               case gn618 => exact gd_none rfl
               intro R s w' hT hs hw ha
               go_simp
               exact k2.out w'
             · refine er_q ?vn619 ?hn619 ?kn619 ?gn619 ?_
               case hn619 => exact rfl
               case vn619 => exact (fun R => .tuple #[.agg (wCe mn), .agg (wCe rm), .bool true])
               case kn619 => exact (fun R => rfl)
               case gn619 => exact gd_none rfl
               intro R s w' hT hs hw ha
               go_simp
             · refine er_q ?vn620 ?hn620 ?kn620 ?gn620 ?_
               case hn620 => exact rfl
               case vn620 => exact (fun R => .agg (wCe mn))
               case kn620 => exact (fun R => rfl)
               case gn620 => exact gd_none rfl
               intro R s w' hT hs hw ha
               go_simp
             · refine er_q ?vn621 ?hn621 ?kn621 ?gn621 ?_
               case hn621 => exact rfl
               case vn621 => exact (fun R => .agg (wCe rm))
               case kn621 => exact (fun R => rfl)
               case gn621 => exact gd_none rfl
               intro R s w' hT hs hw ha
               go_simp
             · refine er_q ?vn622 ?hn622 ?kn622 ?gn622 ?_
               case hn622 => exact rfl
               case vn622 => exact (fun R => .bool true)
               case kn622 => exact (fun R => rfl)
               case gn622 => exact gd_none rfl
               intro R s w' hT hs hw ha
               go_simp
             · refine er_al ?zn623 ?hn623 ?kn623 ?gn623 ?_
               case zn623 => exact (.cells z5 25 (0, 0))
               case hn623 => exact rfl
               case kn623 => exact rfl
               case gn623 => exact gd_none rfl
               intro ρ w'
               go_simp
               exact ⟨rfl, rfl⟩
             · refine er_al ?zn624 ?hn624 ?kn624 ?gn624 ?_
               case zn624 => exact (.cells z5 25 (0, 0))
               case hn624 => exact rfl
               case kn624 => exact rfl
               case gn624 => exact gd_none rfl
               intro ρ w'
               go_simp
               exact ⟨rfl, rfl⟩
             · refine er_st (j := 9) (Ty := ?Tn625) (p := ?pn625) (x := ?xn625) ?fn625 ?zn625 ?vn625 ?hn625 ?on625 ?kn625 ?ln625 ?gn625 ?en625 ?_
               case hn625 => exact rfl
               case on625 => exact rfl
               case fn625 => exact (fun R => (.cells (wCe mn) 25 (0, 0)))
               case zn625 => exact (.cells z5 25 (0, 0))
               case vn625 => exact (fun R => .agg (wCe mn))
               case kn625 => exact (fun R => rfl)
               case ln625 => exact rfl
               case gn625 => exact gd_none rfl
               case en625 =>
                 intro R
                 kernel_rfl
               intro R s ρ w g hT hs hp hx hg hz
               exact ⟨store_row rfl hp hx hz iWide ((wC_size mn)) ((wC_onee mn)), fun w1 hF => ext_filled hT hF (Nat.le_trans EE.out.size hg)⟩
             · refine er_st (j := 10) (Ty := ?Tn626) (p := ?pn626) (x := ?xn626) ?fn626 ?zn626 ?vn626 ?hn626 ?on626 ?kn626 ?ln626 ?gn626 ?en626 ?_
               case hn626 => exact rfl
               case on626 => exact rfl
               case fn626 => exact (fun R => (.cells (wCe rm) 25 (0, 0)))
               case zn626 => exact (.cells z5 25 (0, 0))
               case vn626 => exact (fun R => .agg (wCe rm))
               case kn626 => exact (fun R => rfl)
               case ln626 => exact rfl
               case gn626 => exact gd_none rfl
               case en626 =>
                 intro R
                 kernel_rfl
               intro R s ρ w g hT hs hp hx hg hz
               exact ⟨store_row rfl hp hx hz iWide ((wC_size rm)) ((wC_onee rm)), fun w1 hF => ext_filled hT hF (Nat.le_trans EE.out.size hg)⟩
             · refine er_q ?vn627 ?hn627 ?kn627 ?gn627 ?_
               case hn627 => exact rfl
               case vn627 => exact (fun R => .bool true)
               case kn627 => exact (fun R => rfl)
               case gn627 => exact gd_none rfl
               intro R s w' hT hs hw ha
               go_simp
           case end627 =>
            intro sI R G w628 hI FF hFF
            have hS := hI.same
            have hTT := hI.holds
            have hz0 := EE.out.size
            replace P11 := P11.sameE hS (fun h => h) (by simp)
            have P13 : Blk w628 (G 9) 25 (wCe mn) := (hI.fulls 11 (List.mem_range.2 (show 11 < 14 by decide)) 9 rfl).2.2
            have hmP13 := (hI.made 9 (List.mem_range.2 (show 9 < 14 by decide)) rfl).1
            have P13_lo : wo.heap.size ≤ G 9 := Nat.le_trans hz0 hmP13
            have P14 : Blk w628 (G 10) 25 (wCe rm) := (hI.fulls 12 (List.mem_range.2 (show 12 < 14 by decide)) 10 rfl).2.2
            have hmP14 := (hI.made 10 (List.mem_range.2 (show 10 < 14 by decide)) rfl).1
            have P14_lo : wo.heap.size ≤ G 10 := Nat.le_trans hz0 hmP14
            have ng13_14 : G 9 ≠ G 10 := fun e => by have := hI.apart 9 (List.mem_range.2 (show 9 < 14 by decide)) 10 (List.mem_range.2 (show 10 < 14 by decide)) rfl rfl e; omega
            have ngP11_13 : g11 ≠ G 9 := by omega
            have ngP11_14 : g11 ≠ G 10 := by omega
            replace EE := hide (show Ext _ _ from hTT)
            clear hS hz0 hTT hI P11_lt
            dsimp only at hFF
            subst hFF
            generalize G 9 = g13 at *
            generalize G 10 = g14 at *
            go_upto_region 17 with fail
            refine wp_region_reads ?_
            repeat (first | go_big_quiet_step (first | with_reducible exact quiet_ret (k3.out _)) | (refine wq_load (by kernel_rfl) rfl rfl (fun w hw => by obtain ⟨⟨d, os⟩, rfl⟩ := hw; exact ld_all ((P13).ext (ext_regrown w628 d os)) uWide rfl iWide (wC_size mn)) ?_) | quiet_step (first | with_reducible exact quiet_ret (k3.out _)))
            refine wpQuiet_nil ?_
            intro _ hw'
            obtain ⟨⟨dq, osq⟩, hw''⟩ := hw'
            subst hw''
            replace P11 := (P11).ext (ext_regrown w628 dq osq)
            replace P13 := (P13).ext (ext_regrown w628 dq osq)
            replace P14 := (P14).ext (ext_regrown w628 dq osq)
            replace EE := hide (EE.out.trans (ext_regrown w628 dq osq))
            obtain ⟨w630, hzq629⟩ : ∃ w, grow (redrawn w628 dq) osq = w := ⟨_, rfl⟩
            rw [hzq629] at EE P11 P13 P14 ⊢
            clear hzq629
            have E9 := EE
            clear EE P11 P13 P14 k1 k2 k3
            go_wp2_with fail
            go_loopw [18, 19] (fun bv iv w2 => ∃ i : Nat, i ≤ j ∧ iv = .int .i64 (i : Int) ∧ bv = .bool (AllN m a mn tol i) ∧ Hid (Ext wo w2)) (fun _ iv _ => j - (intOf iv).toNat)
            case atStart => exact ⟨0, Nat.zero_le _, rfl, by rw [allN_0], E9⟩
            case round =>
              clear E9
              obtain ⟨i, hi, rfl, rfl, HE2⟩ := hrel
              by_cases hij : i < j
              · have d4 : decide ((i : Int) ≤ (q : Int)) = true := decide_eq_true (by omega)
                have hain : a + i < nm := by omega
                have hnx := allN_next m a mn tol i
                cases hb : AllN m a mn tol i with
                | false =>
                  rw [hb, Bool.false_and] at hnx
                  have Hnx := hide hnx
                  clear hnx hb
                  go_upto_region 22 with fail
                  refine wp_region_reads ?_
                  repeat (first | go_big_quiet_step (fail) | quiet_step (fail))
                  refine wpQuiet_nil ?_
                  intro _ hw'
                  obtain ⟨⟨dq, osq⟩, hw''⟩ := hw'
                  subst hw''
                  have E6 := hide (HE2.out.trans (ext_regrown wr dq osq))
                  obtain ⟨w6, hw6⟩ : ∃ w, grow (redrawn wr dq) osq = w := ⟨_, rfl⟩
                  rw [hw6] at E6 ⊢
                  clear hw6 HE2
                  go_wp2_with fail
                  go_roundw
                  case rel => exact ⟨i + 1, by omega, by go_num, by rw [Hnx.out], E6⟩
                  case measure => simp [intOf]; omega
                | true =>
                  rw [hb, Bool.true_and] at hnx
                  have ixi := IX.out (a + i) hain
                  have ci := CM.out wr HE2.out (a + i) hain
                  have ixx := HI.out.get (a + i)
                  obtain ⟨xi, hxi⟩ : ∃ z, m.getD (a + i) 0 = z := ⟨_, rfl⟩
                  rw [hxi] at ci hnx ixx
                  have KNr : Hid (∀ w, Calls Try.prog 21 #[.int .i64 xi, .int .i64 mn, .int .i64 tol] w (Ret (.bool (nearV xi mn tol)) w)) := hide fun w => r_near xi mn tol w ixx Himn.out (tol64 Htol.out) _ rfl
                  obtain ⟨bb, hbb⟩ : ∃ z, nearV xi mn tol = z := ⟨_, rfl⟩
                  rw [hbb] at KNr hnx
                  have Hnx := hide hnx
                  obtain ⟨ai, hai⟩ : ∃ z : Nat, a + i = z := ⟨_, rfl⟩
                  rw [hai] at ixi ci hain
                  have eai : IntKind.i64.wrap ((a : Int) + (i : Int)) = (ai : Int) := by rw [IntKind.wrap_i64]; omega
                  have eai' : (a : Int) + (i : Int) = (ai : Int) := by omega
                  clear hnx hb hxi hbb ixx hai
                  go_upto_region 22 with fail
                  have ci2 := fun d os => cell_regrown ci d os
                  refine wp_region_reads ?_
                  repeat (first | go_big_quiet_step (first | with_reducible exact quiet_ret (KNr.out _)) | quiet_step (first | with_reducible exact quiet_ret (KNr.out _)))
                  refine wpQuiet_nil ?_
                  intro _ hw'
                  obtain ⟨⟨dq, osq⟩, hw''⟩ := hw'
                  subst hw''
                  have E6 := hide (HE2.out.trans (ext_regrown wr dq osq))
                  obtain ⟨w6, hw6⟩ : ∃ w, grow (redrawn wr dq) osq = w := ⟨_, rfl⟩
                  rw [hw6] at E6 ⊢
                  clear hw6 ci2 ci ixi HE2 eai eai'
                  go_wp2_with fail
                  go_roundw
                  case rel => exact ⟨i + 1, by omega, by go_num, by rw [Hnx.out], E6⟩
                  case measure => simp [intOf]; omega
              · obtain rfl : i = j := by omega
                have d4 : decide ((i : Int) ≤ (q : Int)) = false := decide_eq_false (by omega)
                have hb := Hal2.out
                have E7 := hide (HE0.out.trans HE2.out)
                clear HE2 HE0 Hal2
                rw [hb]
                go_wp2_with fail
                go_roundw
                case rel => exact ⟨k + 1, a + q, by go_num, by go_num, by omega, by omega, HS2, E7⟩
                case measure => simp [intOf]; omega
   · have d0 : decide ((k : Int) + 1 < (nr : Int)) = false := decide_eq_false (by omega)
     have EE := hide (E3.out.trans (E4.out.trans HE.out))
     clear HS HE M3
     go_wp2_with (go_at_call 14; (with_reducible refine (KK.out _).mono ?_); rintro e w8 ⟨rfl, hE⟩; have E8 := hide (EE.out.trans hE); clear hE)
     go_ret
     exact ⟨rfl, E8.out⟩
end
end Go.Proofs.Ytlfmeiejocpnfaa
