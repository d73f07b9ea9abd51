/- Part 6 of what these claims stand on: contracts of the program's and the reference's functions, and plain facts. Conditions: each states its own. -/
import Derived.Test.YtlfmeiejocpnfaaPrA5
namespace Go.Proofs.Ytlfmeiejocpnfaa
set_option linter.unusedVariables false
set_option linter.unusedSimpArgs false
section
open Go Go.RowKit Go.Sort
attribute [local go_sem] qUpon eUpon putE slE
theorem me_store_sum {w : World} {g : Nat} {t c lo hi y z : Int} (h : Blk w g 27 (meC t c lo hi y)) : (Instr.storeAt 25 (.pointer (some ⟨g, 4, none⟩)) (.agg (wCe z))).run Try.prog w = .ok () (w.setRow g (meC t c lo hi z)) :=
 run_store_part h 25 4 5 iWide (by rw [(meX_of t c lo hi y).s]; decide) (wCe z) rfl (wC_onee z) _ (by kernel_rfl)
set_option maxHeartbeats 3200000 in
set_option maxRecDepth 100000 in
theorem p_startE (e : Int) (W : World) (kt : Hid (∀ w, Calls Try.prog 26 #[.int .i64 e] w (Ret (.bool true) w))) : Calls Try.prog 9 #[.int .i64 e] W (Ret (.tuple #[.agg (meC e 0 0 0 0), .int .i64 0]) W) := by
 have P2 := Blk.new W 27 z9m
 have EE := hide (ext_alloc W (.cells z9m 27))
 obtain ⟨W1, hW1⟩ : ∃ W1, (W.alloc (.cells z9m 27)) = W1 := ⟨_, rfl⟩
 obtain ⟨g0, hg⟩ : ∃ g, W.heap.size = g := ⟨_, rfl⟩
 rw [hW1] at P2 EE
 rw [hg] at P2
 have P2_lo : W.heap.size ≤ g0 := by omega
 have HW := hide hW1
 have Hg := hide hg
 clear hW1 hg
 go_enter Try.func9, Try.ntmps9
 go_upto_region 1 with fail
 unfold z9m at HW
 rw [HW.out, Hg.out]
 clear HW Hg
 refine wp_region_reads ?_
 repeat (first | go_big_quiet_step (first | with_reducible exact quiet_ret (kt.out _)) | quiet_step (first | with_reducible exact quiet_ret (kt.out _)))
 refine wpQuiet_nil ?_
 intro _ hw'
 obtain ⟨⟨dq, osq⟩, hw''⟩ := hw'
 subst hw''
 replace P2 := (P2).ext (ext_regrown W1 dq osq)
 replace EE := hide (EE.out.trans (ext_regrown W1 dq osq))
 obtain ⟨w2, hzq1⟩ : ∃ w, grow (redrawn W1 dq) osq = w := ⟨_, rfl⟩
 rw [hzq1] at EE P2 ⊢
 clear hzq1
 go_upto_region 3 with fail
 have P2_lt := P2.lt
 refine wp_evs [.q, .q, .so 0, .q] [0, 0, 0, 0] (fun R => [.int .i64 e, .agg (meC e 0 0 0 0), undef, .int .i64 0]) (fun _ => (.cells #[] 0 (0, 0))) (fun R _ => (.cells (meC e 0 0 0 0) 27 (0, 0))) (fun _ => g0) (XE W) (fun _ => False) (by kernel_rfl) (by kernel_rfl) (by kernel_rfl) rfl (fun _ => rfl) (fun _ h => h.elim) (fun _ _ h => h) (by intro c hc; simp at hc; (try subst hc); (try simp only); omega) (by intro c c' h1 h2 _; simp at h1 h2; omega) (fun R R' => ⟨fun _ => rfl, fun _ => rfl, fun _ => rfl, fun _ => rfl, trivial⟩) (fun _ _ _ _ => rfl) xe_below EE.out ?ops6 ?end6
 case ops6 =>
   refine ⟨?_, ?_, ?_, ?_, trivial⟩
   · refine er_q ?vn3 ?hn3 ?kn3 ?gn3 ?_
     case hn3 => exact rfl
     case vn3 => exact (fun R => .int .i64 e)
     case kn3 => exact (fun R => rfl)
     case gn3 => exact gd_none rfl
     intro R s w' hT hs hw ha
     go_simp
   · refine er_q ?vn4 ?hn4 ?kn4 ?gn4 ?_
     case hn4 => exact rfl
     case vn4 => exact (fun R => .agg (meC e 0 0 0 0))
     case kn4 => exact (fun R => rfl)
     case gn4 => exact gd_none rfl
     intro R s w' hT hs hw ha
     generalize hA : putE _ _ _ _ _ _ _ = AA
     refine q_buildM (vs := #[(0, .int .i64 e)]) rfl ?_ (b_meT e)
     subst hA
     kernel_rfl
   · refine er_so (c := 0) (Ty := ?Tn5) (p := ?pn5) (x := ?xn5) g0 ?fn5 ?un5 ?vn5 ?hn5 ?on5 ?kn5 ?ln5 ?gn5 ?dn5 ?en5 ?_
     case hn5 => exact rfl
     case on5 => exact rfl
     case fn5 => exact (fun R => (.cells (meC e 0 0 0 0) 27 (0, 0)))
     case un5 => exact (fun R => .pointer (some ⟨g0, 0, none⟩))
     case vn5 => exact (fun R => .agg (meC e 0 0 0 0))
     case kn5 => exact (fun R => rfl)
     case ln5 => exact rfl
     case gn5 => exact gd_none rfl
     case dn5 =>
       intro R
       kernel_rfl
     case en5 =>
       intro R
       kernel_rfl
     intro R s ρ w hT hs hp hx hz
     refine ⟨store_rowN (g := g0) rfl hp hx (hz.trans P2) iMean (rfl) ((meX_of e 0 0 0 0).s) ((meX_of e 0 0 0 0).o), fun w1 hF => ext_filled hT hF P2_lo⟩
   · refine er_q ?vn6 ?hn6 ?kn6 ?gn6 ?_
     case hn6 => exact rfl
     case vn6 => exact (fun R => .int .i64 0)
     case kn6 => exact (fun R => rfl)
     case gn6 => exact gd_none rfl
     intro R s w' hT hs hw ha
     go_simp
 case end6 =>
  intro sI R G w7 hI
  have hS := hI.same
  have hTT := hI.holds
  have hz0 := EE.out.size
  replace P2 : Blk w7 g0 27 (meC e 0 0 0 0) := hI.olds' 2 (List.mem_range.2 (show 2 < 4 by decide)) 0 rfl
  replace EE := hide (show Ext _ _ from hTT)
  clear hS hz0 hTT hI P2_lt
  generalize hF : putE _ _ _ _ _ _ _ = FF
  have hF2 : FF = { tmps := #[.int .i64 e, undef, .pointer (some ⟨g0, 0, none⟩), .int .i64 0, .int .i64 e, .bool true, .bool false, undef, .int .i64 e, .agg (meC e 0 0 0 0)], defers := [] } := by subst hF; kernel_rfl
  clear hF
  subst hF2
  go_wp2_with fail
  exact bodyPost_ret (res2 (p := 2) (u := 3) (ty := 27) rfl _ _ _ 27 (meC e 0 0 0 0) _ rfl P2 uMean rfl iMean) rfl ⟨by kernel_rfl, EE.out⟩
set_option maxHeartbeats 3200000 in
set_option maxRecDepth 100000 in
theorem p_startE_no (e : Int) (W : World) (kt : Hid (∀ w, Calls Try.prog 26 #[.int .i64 e] w (Ret (.bool false) w))) : Calls Try.prog 9 #[.int .i64 e] W (Ret (.tuple #[.agg z9m, .int .i64 9]) W) := by
 have P2 := Blk.new W 27 z9m
 have EE := hide (ext_alloc W (.cells z9m 27))
 obtain ⟨W1, hW1⟩ : ∃ W1, (W.alloc (.cells z9m 27)) = W1 := ⟨_, rfl⟩
 obtain ⟨g0, hg⟩ : ∃ g, W.heap.size = g := ⟨_, rfl⟩
 rw [hW1] at P2 EE
 rw [hg] at P2
 have P2_lo : W.heap.size ≤ g0 := by omega
 have HW := hide hW1
 have Hg := hide hg
 clear hW1 hg
 go_enter Try.func9, Try.ntmps9
 go_upto_region 1 with fail
 unfold z9m at HW
 rw [HW.out, Hg.out]
 clear HW Hg
 refine wp_region_reads ?_
 repeat (first | go_big_quiet_step (first | with_reducible exact quiet_ret (kt.out _)) | quiet_step (first | with_reducible exact quiet_ret (kt.out _)))
 refine wpQuiet_nil ?_
 intro _ hw'
 obtain ⟨⟨dq, osq⟩, hw''⟩ := hw'
 subst hw''
 replace P2 := (P2).ext (ext_regrown W1 dq osq)
 replace EE := hide (EE.out.trans (ext_regrown W1 dq osq))
 obtain ⟨w2, hzq1⟩ : ∃ w, grow (redrawn W1 dq) osq = w := ⟨_, rfl⟩
 rw [hzq1] at EE P2 ⊢
 clear hzq1
 go_upto_region 2 with fail
 have P2_lt := P2.lt
 refine wp_evs [.q, .so 0, .q] [0, 0, 0] (fun R => [.agg z9m, undef, .int .i64 9]) (fun _ => (.cells #[] 0 (0, 0))) (fun R _ => (.cells z9m 27 (0, 0))) (fun _ => g0) (XE W) (fun _ => False) (by kernel_rfl) (by kernel_rfl) (by kernel_rfl) rfl (fun _ => rfl) (fun _ h => h.elim) (fun _ _ h => h) (by intro c hc; simp at hc; (try subst hc); (try simp only); omega) (by intro c c' h1 h2 _; simp at h1 h2; omega) (fun R R' => ⟨fun _ => rfl, fun _ => rfl, fun _ => rfl, trivial⟩) (fun _ _ _ _ => rfl) xe_below EE.out ?ops5 ?end5
 case ops5 =>
   refine ⟨?_, ?_, ?_, trivial⟩
   · refine er_q ?vn3 ?hn3 ?kn3 ?gn3 ?_
     case hn3 => exact rfl
     case vn3 => exact (fun R => .agg z9m)
     case kn3 => exact (fun R => rfl)
     case gn3 => exact gd_none rfl
     intro R s w' hT hs hw ha
     generalize hA : putE _ _ _ _ _ _ _ = AA
     refine q_buildM (vs := #[]) rfl ?_ (b_me0)
     subst hA
     kernel_rfl
   · refine er_so (c := 0) (Ty := ?Tn4) (p := ?pn4) (x := ?xn4) g0 ?fn4 ?un4 ?vn4 ?hn4 ?on4 ?kn4 ?ln4 ?gn4 ?dn4 ?en4 ?_
     case hn4 => exact rfl
     case on4 => exact rfl
     case fn4 => exact (fun R => (.cells z9m 27 (0, 0)))
     case un4 => exact (fun R => .pointer (some ⟨g0, 0, none⟩))
     case vn4 => exact (fun R => .agg z9m)
     case kn4 => exact (fun R => rfl)
     case ln4 => exact rfl
     case gn4 => exact gd_none rfl
     case dn4 =>
       intro R
       kernel_rfl
     case en4 =>
       intro R
       kernel_rfl
     intro R s ρ w hT hs hp hx hz
     refine ⟨store_rowN (g := g0) rfl hp hx (hz.trans P2) iMean (rfl) (rfl) (z9m_one), fun w1 hF => ext_filled hT hF P2_lo⟩
   · refine er_q ?vn5 ?hn5 ?kn5 ?gn5 ?_
     case hn5 => exact rfl
     case vn5 => exact (fun R => .int .i64 9)
     case kn5 => exact (fun R => rfl)
     case gn5 => exact gd_none rfl
     intro R s w' hT hs hw ha
     go_simp
 case end5 =>
  intro sI R G w6 hI
  have hS := hI.same
  have hTT := hI.holds
  have hz0 := EE.out.size
  replace P2 : Blk w6 g0 27 z9m := hI.olds' 1 (List.mem_range.2 (show 1 < 3 by decide)) 0 rfl
  replace EE := hide (show Ext _ _ from hTT)
  clear hS hz0 hTT hI P2_lt
  generalize hF : putE _ _ _ _ _ _ _ = FF
  have hF2 : FF = { tmps := #[.int .i64 e, undef, .pointer (some ⟨g0, 0, none⟩), .int .i64 9, .int .i64 e, .bool false, .bool true, .agg z9m, undef, undef], defers := [] } := by subst hF; kernel_rfl
  clear hF
  subst hF2
  go_wp2_with fail
  exact bodyPost_ret (res2 (p := 2) (u := 3) (ty := 27) rfl _ _ _ 27 z9m _ rfl P2 uMean rfl iMean) rfl ⟨by kernel_rfl, EE.out⟩
set_option maxHeartbeats 3200000 in
set_option maxRecDepth 100000 in
theorem r_startE (e : Int) (W : World) (kt : Hid (∀ w, Calls Try.prog 27 #[.int .i64 e] w (Ret (.bool true) w))) : Calls Try.prog 10 #[.int .i64 e] W (Ret (.tuple #[.agg (meC e 0 0 0 0), .int .i64 0]) W) := by
 have P2 := Blk.new W 27 z9m
 have EE := hide (ext_alloc W (.cells z9m 27))
 obtain ⟨W1, hW1⟩ : ∃ W1, (W.alloc (.cells z9m 27)) = W1 := ⟨_, rfl⟩
 obtain ⟨g0, hg⟩ : ∃ g, W.heap.size = g := ⟨_, rfl⟩
 rw [hW1] at P2 EE
 rw [hg] at P2
 have P2_lo : W.heap.size ≤ g0 := by omega
 have HW := hide hW1
 have Hg := hide hg
 clear hW1 hg
 go_enter Try.func10, Try.ntmps10
 go_upto_region 1 with fail
 unfold z9m at HW
 rw [HW.out, Hg.out]
 clear HW Hg
 refine wp_region_reads ?_
 repeat (first | go_big_quiet_step (first | with_reducible exact quiet_ret (kt.out _)) | quiet_step (first | with_reducible exact quiet_ret (kt.out _)))
 refine wpQuiet_nil ?_
 intro _ hw'
 obtain ⟨⟨dq, osq⟩, hw''⟩ := hw'
 subst hw''
 replace P2 := (P2).ext (ext_regrown W1 dq osq)
 replace EE := hide (EE.out.trans (ext_regrown W1 dq osq))
 obtain ⟨w2, hzq1⟩ : ∃ w, grow (redrawn W1 dq) osq = w := ⟨_, rfl⟩
 rw [hzq1] at EE P2 ⊢
 clear hzq1
 go_upto_region 3 with fail
 have P2_lt := P2.lt
 refine wp_evs [.q, .q, .so 0, .q] [0, 0, 0, 0] (fun R => [.int .i64 e, .agg (meC e 0 0 0 0), undef, .int .i64 0]) (fun _ => (.cells #[] 0 (0, 0))) (fun R _ => (.cells (meC e 0 0 0 0) 27 (0, 0))) (fun _ => g0) (XE W) (fun _ => False) (by kernel_rfl) (by kernel_rfl) (by kernel_rfl) rfl (fun _ => rfl) (fun _ h => h.elim) (fun _ _ h => h) (by intro c hc; simp at hc; (try subst hc); (try simp only); omega) (by intro c c' h1 h2 _; simp at h1 h2; omega) (fun R R' => ⟨fun _ => rfl, fun _ => rfl, fun _ => rfl, fun _ => rfl, trivial⟩) (fun _ _ _ _ => rfl) xe_below EE.out ?ops6 ?end6
 case ops6 =>
   refine ⟨?_, ?_, ?_, ?_, trivial⟩
   · refine er_q ?vn3 ?hn3 ?kn3 ?gn3 ?_
     case hn3 => exact rfl
     case vn3 => exact (fun R => .int .i64 e)
     case kn3 => exact (fun R => rfl)
     case gn3 => exact gd_none rfl
     intro R s w' hT hs hw ha
     go_simp
   · refine er_q ?vn4 ?hn4 ?kn4 ?gn4 ?_
     case hn4 => exact rfl
     case vn4 => exact (fun R => .agg (meC e 0 0 0 0))
     case kn4 => exact (fun R => rfl)
     case gn4 => exact gd_none rfl
     intro R s w' hT hs hw ha
     generalize hA : putE _ _ _ _ _ _ _ = AA
     refine q_buildM (vs := #[(0, .int .i64 e)]) rfl ?_ (b_meT e)
     subst hA
     kernel_rfl
   · refine er_so (c := 0) (Ty := ?Tn5) (p := ?pn5) (x := ?xn5) g0 ?fn5 ?un5 ?vn5 ?hn5 ?on5 ?kn5 ?ln5 ?gn5 ?dn5 ?en5 ?_
     case hn5 => exact rfl
     case on5 => exact rfl
     case fn5 => exact (fun R => (.cells (meC e 0 0 0 0) 27 (0, 0)))
     case un5 => exact (fun R => .pointer (some ⟨g0, 0, none⟩))
     case vn5 => exact (fun R => .agg (meC e 0 0 0 0))
     case kn5 => exact (fun R => rfl)
     case ln5 => exact rfl
     case gn5 => exact gd_none rfl
     case dn5 =>
       intro R
       kernel_rfl
     case en5 =>
       intro R
       kernel_rfl
     intro R s ρ w hT hs hp hx hz
     refine ⟨store_rowN (g := g0) rfl hp hx (hz.trans P2) iMean (rfl) ((meX_of e 0 0 0 0).s) ((meX_of e 0 0 0 0).o), fun w1 hF => ext_filled hT hF P2_lo⟩
   · refine er_q ?vn6 ?hn6 ?kn6 ?gn6 ?_
     case hn6 => exact rfl
     case vn6 => exact (fun R => .int .i64 0)
     case kn6 => exact (fun R => rfl)
     case gn6 => exact gd_none rfl
     intro R s w' hT hs hw ha
     go_simp
 case end6 =>
  intro sI R G w7 hI
  have hS := hI.same
  have hTT := hI.holds
  have hz0 := EE.out.size
  replace P2 : Blk w7 g0 27 (meC e 0 0 0 0) := hI.olds' 2 (List.mem_range.2 (show 2 < 4 by decide)) 0 rfl
  replace EE := hide (show Ext _ _ from hTT)
  clear hS hz0 hTT hI P2_lt
  generalize hF : putE _ _ _ _ _ _ _ = FF
  have hF2 : FF = { tmps := #[.int .i64 e, undef, .pointer (some ⟨g0, 0, none⟩), .int .i64 0, .int .i64 e, .bool true, .bool false, undef, .int .i64 e, .agg (meC e 0 0 0 0)], defers := [] } := by subst hF; kernel_rfl
  clear hF
  subst hF2
  go_wp2_with fail
  exact bodyPost_ret (res2 (p := 2) (u := 3) (ty := 27) rfl _ _ _ 27 (meC e 0 0 0 0) _ rfl P2 uMean rfl iMean) rfl ⟨by kernel_rfl, EE.out⟩
set_option maxHeartbeats 3200000 in
set_option maxRecDepth 100000 in
theorem r_startE_no (e : Int) (W : World) (kt : Hid (∀ w, Calls Try.prog 27 #[.int .i64 e] w (Ret (.bool false) w))) : Calls Try.prog 10 #[.int .i64 e] W (Ret (.tuple #[.agg z9m, .int .i64 9]) W) := by
 have P2 := Blk.new W 27 z9m
 have EE := hide (ext_alloc W (.cells z9m 27))
 obtain ⟨W1, hW1⟩ : ∃ W1, (W.alloc (.cells z9m 27)) = W1 := ⟨_, rfl⟩
 obtain ⟨g0, hg⟩ : ∃ g, W.heap.size = g := ⟨_, rfl⟩
 rw [hW1] at P2 EE
 rw [hg] at P2
 have P2_lo : W.heap.size ≤ g0 := by omega
 have HW := hide hW1
 have Hg := hide hg
 clear hW1 hg
 go_enter Try.func10, Try.ntmps10
 go_upto_region 1 with fail
 unfold z9m at HW
 rw [HW.out, Hg.out]
 clear HW Hg
 refine wp_region_reads ?_
 repeat (first | go_big_quiet_step (first | with_reducible exact quiet_ret (kt.out _)) | quiet_step (first | with_reducible exact quiet_ret (kt.out _)))
 refine wpQuiet_nil ?_
 intro _ hw'
 obtain ⟨⟨dq, osq⟩, hw''⟩ := hw'
 subst hw''
 replace P2 := (P2).ext (ext_regrown W1 dq osq)
 replace EE := hide (EE.out.trans (ext_regrown W1 dq osq))
 obtain ⟨w2, hzq1⟩ : ∃ w, grow (redrawn W1 dq) osq = w := ⟨_, rfl⟩
 rw [hzq1] at EE P2 ⊢
 clear hzq1
 go_upto_region 2 with fail
 have P2_lt := P2.lt
 refine wp_evs [.q, .so 0, .q] [0, 0, 0] (fun R => [.agg z9m, undef, .int .i64 9]) (fun _ => (.cells #[] 0 (0, 0))) (fun R _ => (.cells z9m 27 (0, 0))) (fun _ => g0) (XE W) (fun _ => False) (by kernel_rfl) (by kernel_rfl) (by kernel_rfl) rfl (fun _ => rfl) (fun _ h => h.elim) (fun _ _ h => h) (by intro c hc; simp at hc; (try subst hc); (try simp only); omega) (by intro c c' h1 h2 _; simp at h1 h2; omega) (fun R R' => ⟨fun _ => rfl, fun _ => rfl, fun _ => rfl, trivial⟩) (fun _ _ _ _ => rfl) xe_below EE.out ?ops5 ?end5
 case ops5 =>
   refine ⟨?_, ?_, ?_, trivial⟩
   · refine er_q ?vn3 ?hn3 ?kn3 ?gn3 ?_
     case hn3 => exact rfl
     case vn3 => exact (fun R => .agg z9m)
     case kn3 => exact (fun R => rfl)
     case gn3 => exact gd_none rfl
     intro R s w' hT hs hw ha
     generalize hA : putE _ _ _ _ _ _ _ = AA
     refine q_buildM (vs := #[]) rfl ?_ (b_me0)
     subst hA
     kernel_rfl
   · refine er_so (c := 0) (Ty := ?Tn4) (p := ?pn4) (x := ?xn4) g0 ?fn4 ?un4 ?vn4 ?hn4 ?on4 ?kn4 ?ln4 ?gn4 ?dn4 ?en4 ?_
     case hn4 => exact rfl
     case on4 => exact rfl
     case fn4 => exact (fun R => (.cells z9m 27 (0, 0)))
     case un4 => exact (fun R => .pointer (some ⟨g0, 0, none⟩))
     case vn4 => exact (fun R => .agg z9m)
     case kn4 => exact (fun R => rfl)
     case ln4 => exact rfl
     case gn4 => exact gd_none rfl
     case dn4 =>
       intro R
       kernel_rfl
     case en4 =>
       intro R
       kernel_rfl
     intro R s ρ w hT hs hp hx hz
     refine ⟨store_rowN (g := g0) rfl hp hx (hz.trans P2) iMean (rfl) (rfl) (z9m_one), fun w1 hF => ext_filled hT hF P2_lo⟩
   · refine er_q ?vn5 ?hn5 ?kn5 ?gn5 ?_
     case hn5 => exact rfl
     case vn5 => exact (fun R => .int .i64 9)
     case kn5 => exact (fun R => rfl)
     case gn5 => exact gd_none rfl
     intro R s w' hT hs hw ha
     go_simp
 case end5 =>
  intro sI R G w6 hI
  have hS := hI.same
  have hTT := hI.holds
  have hz0 := EE.out.size
  replace P2 : Blk w6 g0 27 z9m := hI.olds' 1 (List.mem_range.2 (show 1 < 3 by decide)) 0 rfl
  replace EE := hide (show Ext _ _ from hTT)
  clear hS hz0 hTT hI P2_lt
  generalize hF : putE _ _ _ _ _ _ _ = FF
  have hF2 : FF = { tmps := #[.int .i64 e, undef, .pointer (some ⟨g0, 0, none⟩), .int .i64 9, .int .i64 e, .bool false, .bool true, .agg z9m, undef, undef], defers := [] } := by subst hF; kernel_rfl
  clear hF
  subst hF2
  go_wp2_with fail
  exact bodyPost_ret (res2 (p := 2) (u := 3) (ty := 27) rfl _ _ _ 27 z9m _ rfl P2 uMean rfl iMean) rfl ⟨by kernel_rfl, EE.out⟩
set_option maxHeartbeats 3200000 in
set_option maxRecDepth 100000 in
theorem p_ext0e (X : Array Value) (t c lo hi z : Int) (hX : MeX X t c lo hi (wCe z)) (v : Int) (d0 : (c == 0) = true) (W : World) : Calls Try.prog 62 #[.agg X, .int .i64 v] W (Ret (.tuple #[.agg z9m, .bool false]) W) := by
 have P2 := (Blk.new W 27 X).alloc (.cells z9m 27)
 have P4 := Blk.new (W.alloc (.cells X 27)) 27 z9m
 rw [alloc_size] at P4
 have EE := hide ((ext_alloc W (.cells X 27)).trans (ext_alloc _ (.cells z9m 27)))
 obtain ⟨W1, hW1⟩ : ∃ W1, ((W.alloc (.cells X 27)).alloc (.cells z9m 27)) = W1 := ⟨_, rfl⟩
 obtain ⟨g0, hg⟩ : ∃ g, W.heap.size = g := ⟨_, rfl⟩
 rw [hW1] at P2 P4 EE
 rw [hg] at P2 P4
 have P2_lo : W.heap.size ≤ g0 := by omega
 have P4_lo : W.heap.size ≤ g0 + 1 := by omega
 have HW := hide hW1
 have Hg := hide hg
 clear hW1 hg
 go_enter Try.func62, Try.ntmps62
 go_upto_region 1 with fail
 unfold z9m at HW
 rw [HW.out, Hg.out]
 clear HW Hg
 have cq1_0 := fun d os => (((P2).ext (ext_regrown W1 d os)).cell 1).trans (hX.x1)
 refine wp_region_reads ?_
 repeat (first | go_big_quiet_step (fail) | quiet_step (fail))
 refine wpQuiet_nil ?_
 intro _ hw'
 obtain ⟨⟨dq, osq⟩, hw''⟩ := hw'
 subst hw''
 replace P2 := (P2).ext (ext_regrown W1 dq osq)
 replace P4 := (P4).ext (ext_regrown W1 dq osq)
 replace EE := hide (EE.out.trans (ext_regrown W1 dq osq))
 obtain ⟨w2, hzq1⟩ : ∃ w, grow (redrawn W1 dq) osq = w := ⟨_, rfl⟩
 rw [hzq1] at EE P2 P4 ⊢
 clear hzq1 cq1_0
 go_upto_region 2 with fail
 have P2_lt := P2.lt
 have P4_lt := P4.lt
 refine wp_evs [.q, .so 0, .q] [0, 0, 0] (fun R => [.agg z9m, undef, .bool false]) (fun _ => (.cells #[] 0 (0, 0))) (fun R _ => (.cells z9m 27 (0, 0))) (fun _ => g0 + 1) (XE W) (fun _ => False) (by kernel_rfl) (by kernel_rfl) (by kernel_rfl) rfl (fun _ => rfl) (fun _ h => h.elim) (fun _ _ h => h) (by intro c hc; simp at hc; (try subst hc); (try simp only); omega) (by intro c c' h1 h2 _; simp at h1 h2; omega) (fun R R' => ⟨fun _ => rfl, fun _ => rfl, fun _ => rfl, trivial⟩) (fun _ _ _ _ => rfl) xe_below EE.out ?ops5 ?end5
 case ops5 =>
   refine ⟨?_, ?_, ?_, trivial⟩
   · refine er_q ?vn3 ?hn3 ?kn3 ?gn3 ?_
     case hn3 => exact rfl
     case vn3 => exact (fun R => .agg z9m)
     case kn3 => exact (fun R => rfl)
     case gn3 => exact gd_none rfl
     intro R s w' hT hs hw ha
     generalize hA : putE _ _ _ _ _ _ _ = AA
     refine q_buildM (vs := #[]) rfl ?_ (b_me0)
     subst hA
     kernel_rfl
   · refine er_so (c := 0) (Ty := ?Tn4) (p := ?pn4) (x := ?xn4) (g0 + 1) ?fn4 ?un4 ?vn4 ?hn4 ?on4 ?kn4 ?ln4 ?gn4 ?dn4 ?en4 ?_
     case hn4 => exact rfl
     case on4 => exact rfl
     case fn4 => exact (fun R => (.cells z9m 27 (0, 0)))
     case un4 => exact (fun R => .pointer (some ⟨g0 + 1, 0, none⟩))
     case vn4 => exact (fun R => .agg z9m)
     case kn4 => exact (fun R => rfl)
     case ln4 => exact rfl
     case gn4 => exact gd_none rfl
     case dn4 =>
       intro R
       kernel_rfl
     case en4 =>
       intro R
       kernel_rfl
     intro R s ρ w hT hs hp hx hz
     refine ⟨store_rowN (g := (g0 + 1)) rfl hp hx (hz.trans P4) iMean (rfl) (rfl) (z9m_one), fun w1 hF => ext_filled hT hF P4_lo⟩
   · refine er_q ?vn5 ?hn5 ?kn5 ?gn5 ?_
     case hn5 => exact rfl
     case vn5 => exact (fun R => .bool false)
     case kn5 => exact (fun R => rfl)
     case gn5 => exact gd_none rfl
     intro R s w' hT hs hw ha
     go_simp
 case end5 =>
  intro sI R G w6 hI
  have hS := hI.same
  have hTT := hI.holds
  have hz0 := EE.out.size
  replace P2 := P2.sameE hS (fun h => h) (by intro c hc; simp at hc; (try subst hc); (try simp only); omega)
  replace P4 : Blk w6 (g0 + 1) 27 z9m := hI.olds' 1 (List.mem_range.2 (show 1 < 3 by decide)) 0 rfl
  replace EE := hide (show Ext _ _ from hTT)
  clear hS hz0 hTT hI P2_lt P4_lt
  generalize hF : putE _ _ _ _ _ _ _ = FF
  have hF2 : FF = { tmps := #[.agg X, .int .i64 v, .pointer (some ⟨g0, 0, none⟩), undef, .pointer (some ⟨g0 + 1, 0, none⟩), .bool false, undef, undef, undef, .pointer (some ⟨g0, 1, none⟩), .int .i64 c, .bool true, .agg z9m, undef, undef, undef, undef, undef, undef, undef, undef, undef, undef, undef, undef, undef, undef, undef, undef, undef, undef, undef, undef, undef, undef, undef, undef, undef, undef, undef, undef], defers := [] } := by subst hF; kernel_rfl
  clear hF
  subst hF2
  go_wp2_with fail
  exact bodyPost_ret (res2 (p := 4) (u := 5) (ty := 27) rfl _ _ _ 27 z9m _ rfl P4 uMean rfl iMean) rfl ⟨by kernel_rfl, EE.out⟩
set_option maxHeartbeats 3200000 in
set_option maxRecDepth 100000 in
theorem p_extNe (X : Array Value) (t c lo hi z : Int) (hX : MeX X t c lo hi (wCe z)) (v : Int) (u : Int) (d0 : (c == 0) = false) (wr : IntKind.i64.wrap (c + 1) = c + 1) (k1 : Hid (∀ w, Calls Try.prog 68 #[.int .i64 v] w (Ret (.agg (wCe v)) w))) (k2 : Hid (∀ w, Calls Try.prog 73 #[.agg (wCe z), .agg (wCe v)] w (Ret (.tuple #[.agg (wCe u), .bool true]) w))) (kn : Hid (∀ w, Calls Try.prog 57 #[.agg (meC t (c + 1) (min lo v) (max hi v) u)] w (Ret (.bool false) w))) (W : World) : Calls Try.prog 62 #[.agg X, .int .i64 v] W (Ret (.tuple #[.agg z9m, .bool false]) W) := by
 have P2 := (Blk.new W 27 X).alloc (.cells z9m 27)
 have P4 := Blk.new (W.alloc (.cells X 27)) 27 z9m
 rw [alloc_size] at P4
 have EE := hide ((ext_alloc W (.cells X 27)).trans (ext_alloc _ (.cells z9m 27)))
 obtain ⟨W1, hW1⟩ : ∃ W1, ((W.alloc (.cells X 27)).alloc (.cells z9m 27)) = W1 := ⟨_, rfl⟩
 obtain ⟨g0, hg⟩ : ∃ g, W.heap.size = g := ⟨_, rfl⟩
 rw [hW1] at P2 P4 EE
 rw [hg] at P2 P4
 have P2_lo : W.heap.size ≤ g0 := by omega
 have P4_lo : W.heap.size ≤ g0 + 1 := by omega
 have HW := hide hW1
 have Hg := hide hg
 clear hW1 hg
 go_enter Try.func62, Try.ntmps62
 go_upto_region 1 with fail
 unfold z9m at HW
 rw [HW.out, Hg.out]
 clear HW Hg
 have cq1_0 := fun d os => (((P2).ext (ext_regrown W1 d os)).cell 1).trans (hX.x1)
 refine wp_region_reads ?_
 repeat (first | go_big_quiet_step (fail) | quiet_step (fail))
 refine wpQuiet_nil ?_
 intro _ hw'
 obtain ⟨⟨dq, osq⟩, hw''⟩ := hw'
 subst hw''
 replace P2 := (P2).ext (ext_regrown W1 dq osq)
 replace P4 := (P4).ext (ext_regrown W1 dq osq)
 replace EE := hide (EE.out.trans (ext_regrown W1 dq osq))
 obtain ⟨w2, hzq1⟩ : ∃ w, grow (redrawn W1 dq) osq = w := ⟨_, rfl⟩
 rw [hzq1] at EE P2 P4 ⊢
 clear hzq1 cq1_0
 go_upto_region 3 with fail
 have P2_lt := P2.lt
 have P4_lt := P4.lt
 refine wp_ev [.q, .q, .q, .q, .q, .q, .q, .q, .al, .st 8, .q] [0, 0, 0, 0, 0, 0, 0, 0, 0, 0, 0] (fun R => [.pointer (some ⟨g0, 4, none⟩), .agg (wCe z), .int .i64 v, .agg (wCe v), .tuple #[.agg (wCe u), .bool true], .tuple #[.agg (wCe u), .bool true], .agg (wCe u), .bool true, undef, undef, .bool true]) (fun _ => (.cells z5 25 (0, 0))) (fun R _ => (.cells (wCe u) 25 (0, 0))) (fun _ => 0) (XE W) (fun _ => False) (by kernel_rfl) (by kernel_rfl) (by kernel_rfl) (by kernel_rfl) rfl (fun _ => rfl) (fun _ h => h.elim) (fun _ _ h => h) (by simp) (by simp) (fun R R' => ⟨fun _ => rfl, fun _ => rfl, fun _ => rfl, fun _ => rfl, fun _ => rfl, fun _ => rfl, fun _ => rfl, fun _ => rfl, fun _ => rfl, fun _ => rfl, fun _ => rfl, trivial⟩) (fun _ _ _ _ => rfl) xe_below (EE.out.trans (ext_drew _)) ?ops13 ?end13
 case ops13 =>
   refine ⟨?_, ?_, ?_, ?_, ?_, ?_, ?_, ?_, ?_, ?_, ?_, trivial⟩
   · refine er_q ?vn3 ?hn3 ?kn3 ?gn3 ?_
     case hn3 => exact rfl
     case vn3 => exact (fun R => .pointer (some ⟨g0, 4, none⟩))
     case kn3 => exact (fun R => rfl)
     case gn3 => exact gd_none rfl
     intro R s w' hT hs hw ha
     go_simp
   · refine er_q ?vn4 ?hn4 ?kn4 ?gn4 ?_
     case hn4 => exact rfl
     case vn4 => exact (fun R => .agg (wCe z))
     case kn4 => exact (fun R => rfl)
     case gn4 => exact gd_none rfl
     intro R s w' hT hs hw ha
     have L := run_load_part (P2.sameE hw (fun h => h) (by simp)) _ _ uWide rfl 4 5 iWide (by rw [hX.s]; first | decide | omega) _ (hX.x4)
     generalize hA : putE _ _ _ _ _ _ _ = AA
     refine q_load rfl ?_ L
     subst hA
     kernel_rfl
   · refine er_q ?vn5 ?hn5 ?kn5 ?gn5 ?_
     case hn5 => exact rfl
     case vn5 => exact (fun R => .int .i64 v)
     case kn5 => exact (fun R => rfl)
     case gn5 => exact gd_none rfl
     intro R s w' hT hs hw ha
     go_simp
   · refine er_q ?vn6 ?hn6 ?kn6 ?gn6 ?_
     case hn6 => exact rfl
     case vn6 => exact (fun R => .agg (wCe v))
     case kn6 => exact (fun R => rfl)
     case gn6 => exact gd_none rfl
     intro R s w' hT hs hw ha
     go_simp
     exact k1.out w'
   · refine er_q ?vn7 ?hn7 ?kn7 ?gn7 ?_
     case hn7 => exact rfl
     case vn7 => exact (fun R => .tuple #[.agg (wCe u), .bool true])
     case kn7 => exact (fun R => rfl)
     case gn7 => exact gd_none rfl
     intro R s w' hT hs hw ha
     go_simp
     exact k2.out w'
   · refine er_q ?vn8 ?hn8 ?kn8 ?gn8 ?_
     case hn8 => exact rfl
     case vn8 => exact (fun R => .tuple #[.agg (wCe u), .bool true])
     case kn8 => exact (fun R => rfl)
     case gn8 => exact gd_none rfl
     intro R s w' hT hs hw ha
     go_simp
   · refine er_q ?vn9 ?hn9 ?kn9 ?gn9 ?_
     case hn9 => exact rfl
     case vn9 => exact (fun R => .agg (wCe u))
     case kn9 => exact (fun R => rfl)
     case gn9 => exact gd_none rfl
     intro R s w' hT hs hw ha
     go_simp
   · refine er_q ?vn10 ?hn10 ?kn10 ?gn10 ?_
     case hn10 => exact rfl
     case vn10 => exact (fun R => .bool true)
     case kn10 => exact (fun R => rfl)
     case gn10 => exact gd_none rfl
     intro R s w' hT hs hw ha
     go_simp
   · refine er_al ?zn11 ?hn11 ?kn11 ?gn11 ?_
     case zn11 => exact (.cells z5 25 (0, 0))
     case hn11 => exact rfl
     case kn11 => exact rfl
     case gn11 => exact gd_none rfl
     intro ρ w'
     go_simp
     exact ⟨rfl, rfl⟩
   · refine er_st (j := 8) (Ty := ?Tn12) (p := ?pn12) (x := ?xn12) ?fn12 ?zn12 ?vn12 ?hn12 ?on12 ?kn12 ?ln12 ?gn12 ?en12 ?_
     case hn12 => exact rfl
     case on12 => exact rfl
     case fn12 => exact (fun R => (.cells (wCe u) 25 (0, 0)))
     case zn12 => exact (.cells z5 25 (0, 0))
     case vn12 => exact (fun R => .agg (wCe u))
     case kn12 => exact (fun R => rfl)
     case ln12 => exact rfl
     case gn12 => exact gd_none rfl
     case en12 =>
       intro R
       kernel_rfl
     intro R s ρ w g hT hs hp hx hg hz
     exact ⟨store_row rfl hp hx hz iWide ((wC_size u)) ((wC_onee u)), fun w1 hF => ext_filled hT hF (Nat.le_trans EE.out.size hg)⟩
   · refine er_q ?vn13 ?hn13 ?kn13 ?gn13 ?_
     case hn13 => exact rfl
     case vn13 => exact (fun R => .bool true)
     case kn13 => exact (fun R => rfl)
     case gn13 => exact gd_none rfl
     intro R s w' hT hs hw ha
     go_simp
 case end13 =>
  intro sI R G w14 hI
  have hS := hI.same
  have hTT := hI.holds
  have hz0 := EE.out.size
  replace P2 := P2.sameE hS (fun h => h) (by simp)
  replace P4 := P4.sameE hS (fun h => h) (by simp)
  have P6 : Blk w14 (G 8) 25 (wCe u) := (hI.fulls 9 (List.mem_range.2 (show 9 < 11 by decide)) 8 rfl).2.2
  have hmP6 := (hI.made 8 (List.mem_range.2 (show 8 < 11 by decide)) rfl).1
  have P6_lo : W.heap.size ≤ G 8 := Nat.le_trans hz0 hmP6
  have ngP2_6 : g0 ≠ G 8 := by omega
  have ngP4_6 : g0 + 1 ≠ G 8 := by omega
  replace EE := hide (show Ext _ _ from hTT)
  clear hS hz0 hTT hI P2_lt P4_lt
  generalize hF : putE _ _ _ _ _ _ _ = FF
  have hF2 : FF = { tmps := #[.agg X, .int .i64 v, .pointer (some ⟨g0, 0, none⟩), undef, .pointer (some ⟨g0 + 1, 0, none⟩), .bool false, .pointer (some ⟨G 8, 0, none⟩), .bool true, undef, .pointer (some ⟨g0, 1, none⟩), .int .i64 c, .bool false, undef, .tuple #[.agg (wCe u), .bool true], .pointer (some ⟨g0, 4, none⟩), .agg (wCe z), .int .i64 v, .agg (wCe v), .tuple #[.agg (wCe u), .bool true], .agg (wCe u), .bool true, undef, undef, undef, undef, undef, undef, undef, undef, undef, undef, undef, undef, undef, undef, undef, undef, undef, undef, undef, undef], defers := [] } := by subst hF; kernel_rfl
  clear hF
  subst hF2
  generalize G 8 = g6 at *
  go_upto_region 4 with fail
  have P2_lt := P2.lt
  have P4_lt := P4.lt
  have P6_lt := P6.lt
  refine wp_evs [.q, .q, .q, .q, .q, .q, .q, .q, .q, .q, .q, .q, .q, .q, .q, .al, .st 15] [0, 0, 0, 0, 0, 0, 0, 0, 0, 0, 0, 0, 0, 0, 0, 0, 0] (fun R => [.pointer (some ⟨g0, 0, none⟩), .int .i64 t, .pointer (some ⟨g0, 1, none⟩), .int .i64 c, .int .i64 (c + 1), .pointer (some ⟨g0, 2, none⟩), .int .i64 lo, .int .i64 v, .int .i64 (min lo v), .pointer (some ⟨g0, 3, none⟩), .int .i64 hi, .int .i64 v, .int .i64 (max hi v), .agg (wCe u), .agg (meC t (c + 1) (min lo v) (max hi v) u), undef, undef]) (fun _ => (.cells z9m 27 (0, 0))) (fun R _ => (.cells (meC t (c + 1) (min lo v) (max hi v) u) 27 (0, 0))) (fun _ => 0) (XE W) (fun _ => False) (by kernel_rfl) (by kernel_rfl) (by kernel_rfl) rfl (fun _ => rfl) (fun _ h => h.elim) (fun _ _ h => h) (by simp) (by simp) (fun R R' => ⟨fun _ => rfl, fun _ => rfl, fun _ => rfl, fun _ => rfl, fun _ => rfl, fun _ => rfl, fun _ => rfl, fun _ => rfl, fun _ => rfl, fun _ => rfl, fun _ => rfl, fun _ => rfl, fun _ => rfl, fun _ => rfl, fun _ => rfl, fun _ => rfl, fun _ => rfl, trivial⟩) (fun _ _ _ _ => rfl) xe_below EE.out ?ops31 ?end31
  case ops31 =>
    refine ⟨?_, ?_, ?_, ?_, ?_, ?_, ?_, ?_, ?_, ?_, ?_, ?_, ?_, ?_, ?_, ?_, ?_, trivial⟩
    · refine er_q ?vn15 ?hn15 ?kn15 ?gn15 ?_
      case hn15 => exact rfl
      case vn15 => exact (fun R => .pointer (some ⟨g0, 0, none⟩))
      case kn15 => exact (fun R => rfl)
      case gn15 => exact gd_none rfl
      intro R s w' hT hs hw ha
      go_simp
    · refine er_q ?vn16 ?hn16 ?kn16 ?gn16 ?_
      case hn16 => exact rfl
      case vn16 => exact (fun R => .int .i64 t)
      case kn16 => exact (fun R => rfl)
      case gn16 => exact gd_none rfl
      intro R s w' hT hs hw ha
      have cc := ((show Blk w' g0 _ X from P2.sameE hw (fun h => h) (by simp)).cell 0).trans (hX.x0)
      go_simp
    · refine er_q ?vn17 ?hn17 ?kn17 ?gn17 ?_
      case hn17 => exact rfl
      case vn17 => exact (fun R => .pointer (some ⟨g0, 1, none⟩))
      case kn17 => exact (fun R => rfl)
      case gn17 => exact gd_none rfl
      intro R s w' hT hs hw ha
      go_simp
    · refine er_q ?vn18 ?hn18 ?kn18 ?gn18 ?_
      case hn18 => exact rfl
      case vn18 => exact (fun R => .int .i64 c)
      case kn18 => exact (fun R => rfl)
      case gn18 => exact gd_none rfl
      intro R s w' hT hs hw ha
      have cc := ((show Blk w' g0 _ X from P2.sameE hw (fun h => h) (by simp)).cell 1).trans (hX.x1)
      go_simp
    · refine er_q ?vn19 ?hn19 ?kn19 ?gn19 ?_
      case hn19 => exact rfl
      case vn19 => exact (fun R => .int .i64 (c + 1))
      case kn19 => exact (fun R => rfl)
      case gn19 => exact gd_none rfl
      intro R s w' hT hs hw ha
      go_simp
    · refine er_q ?vn20 ?hn20 ?kn20 ?gn20 ?_
      case hn20 => exact rfl
      case vn20 => exact (fun R => .pointer (some ⟨g0, 2, none⟩))
      case kn20 => exact (fun R => rfl)
      case gn20 => exact gd_none rfl
      intro R s w' hT hs hw ha
      go_simp
    · refine er_q ?vn21 ?hn21 ?kn21 ?gn21 ?_
      case hn21 => exact rfl
      case vn21 => exact (fun R => .int .i64 lo)
      case kn21 => exact (fun R => rfl)
      case gn21 => exact gd_none rfl
      intro R s w' hT hs hw ha
      have cc := ((show Blk w' g0 _ X from P2.sameE hw (fun h => h) (by simp)).cell 2).trans (hX.x2)
      go_simp
    · refine er_q ?vn22 ?hn22 ?kn22 ?gn22 ?_
      case hn22 => exact rfl
      case vn22 => exact (fun R => .int .i64 v)
      case kn22 => exact (fun R => rfl)
      case gn22 => exact gd_none rfl
      intro R s w' hT hs hw ha
      go_simp
    · refine er_q ?vn23 ?hn23 ?kn23 ?gn23 ?_
      case hn23 => exact rfl
      case vn23 => exact (fun R => .int .i64 (min lo v))
      case kn23 => exact (fun R => rfl)
      case gn23 => exact gd_none rfl
      intro R s w' hT hs hw ha
      go_simp
    · refine er_q ?vn24 ?hn24 ?kn24 ?gn24 ?_
      case hn24 => exact rfl
      case vn24 => exact (fun R => .pointer (some ⟨g0, 3, none⟩))
      case kn24 => exact (fun R => rfl)
      case gn24 => exact gd_none rfl
      intro R s w' hT hs hw ha
      go_simp
    · refine er_q ?vn25 ?hn25 ?kn25 ?gn25 ?_
      case hn25 => exact rfl
      case vn25 => exact (fun R => .int .i64 hi)
      case kn25 => exact (fun R => rfl)
      case gn25 => exact gd_none rfl
      intro R s w' hT hs hw ha
      have cc := ((show Blk w' g0 _ X from P2.sameE hw (fun h => h) (by simp)).cell 3).trans (hX.x3)
      go_simp
    · refine er_q ?vn26 ?hn26 ?kn26 ?gn26 ?_
      case hn26 => exact rfl
      case vn26 => exact (fun R => .int .i64 v)
      case kn26 => exact (fun R => rfl)
      case gn26 => exact gd_none rfl
      intro R s w' hT hs hw ha
      go_simp
    · refine er_q ?vn27 ?hn27 ?kn27 ?gn27 ?_
      case hn27 => exact rfl
      case vn27 => exact (fun R => .int .i64 (max hi v))
      case kn27 => exact (fun R => rfl)
      case gn27 => exact gd_none rfl
      intro R s w' hT hs hw ha
      go_simp
    · refine er_q ?vn28 ?hn28 ?kn28 ?gn28 ?_
      case hn28 => exact rfl
      case vn28 => exact (fun R => .agg (wCe u))
      case kn28 => exact (fun R => rfl)
      case gn28 => exact gd_none rfl
      intro R s w' hT hs hw ha
      have L := ld_all (P6.sameE hw (fun h => h) (by simp)) uWide rfl iWide (wC_size u)
      generalize hA : putE _ _ _ _ _ _ _ = AA
      refine q_load rfl ?_ L
      subst hA
      kernel_rfl
    · refine er_q ?vn29 ?hn29 ?kn29 ?gn29 ?_
      case hn29 => exact rfl
      case vn29 => exact (fun R => .agg (meC t (c + 1) (min lo v) (max hi v) u))
      case kn29 => exact (fun R => rfl)
      case gn29 => exact gd_none rfl
      intro R s w' hT hs hw ha
      generalize hA : putE _ _ _ _ _ _ _ = AA
      refine q_buildM (vs := #[(0, .int .i64 t), (1, .int .i64 (c + 1)), (2, .int .i64 (min lo v)), (3, .int .i64 (max hi v)), (4, .agg (wCe u))]) rfl ?_ (b_me5w t (c + 1) (min lo v) (max hi v) u)
      subst hA
      kernel_rfl
    · refine er_al ?zn30 ?hn30 ?kn30 ?gn30 ?_
      case zn30 => exact (.cells z9m 27 (0, 0))
      case hn30 => exact rfl
      case kn30 => exact rfl
      case gn30 => exact gd_none rfl
      intro ρ w'
      go_simp
      exact ⟨rfl, rfl⟩
    · refine er_st (j := 15) (Ty := ?Tn31) (p := ?pn31) (x := ?xn31) ?fn31 ?zn31 ?vn31 ?hn31 ?on31 ?kn31 ?ln31 ?gn31 ?en31 ?_
      case hn31 => exact rfl
      case on31 => exact rfl
      case fn31 => exact (fun R => (.cells (meC t (c + 1) (min lo v) (max hi v) u) 27 (0, 0)))
      case zn31 => exact (.cells z9m 27 (0, 0))
      case vn31 => exact (fun R => .agg (meC t (c + 1) (min lo v) (max hi v) u))
      case kn31 => exact (fun R => rfl)
      case ln31 => exact rfl
      case gn31 => exact gd_none rfl
      case en31 =>
        intro R
        kernel_rfl
      intro R s ρ w g hT hs hp hx hg hz
      exact ⟨store_row rfl hp hx hz iMean ((meX_of t (c + 1) (min lo v) (max hi v) u).s) ((meX_of t (c + 1) (min lo v) (max hi v) u).o), fun w1 hF => ext_filled hT hF (Nat.le_trans EE.out.size hg)⟩
  case end31 =>
   intro sI R G w32 hI
   have hS := hI.same
   have hTT := hI.holds
   have hz0 := EE.out.size
   replace P2 := P2.sameE hS (fun h => h) (by simp)
   replace P4 := P4.sameE hS (fun h => h) (by simp)
   replace P6 := P6.sameE hS (fun h => h) (by simp)
   have P8 : Blk w32 (G 15) 27 (meC t (c + 1) (min lo v) (max hi v) u) := (hI.fulls 16 (List.mem_range.2 (show 16 < 17 by decide)) 15 rfl).2.2
   have hmP8 := (hI.made 15 (List.mem_range.2 (show 15 < 17 by decide)) rfl).1
   have P8_lo : W.heap.size ≤ G 15 := Nat.le_trans hz0 hmP8
   have ngP2_8 : g0 ≠ G 15 := by omega
   have ngP4_8 : g0 + 1 ≠ G 15 := by omega
   have ngP6_8 : g6 ≠ G 15 := by omega
   replace EE := hide (show Ext _ _ from hTT)
   clear hS hz0 hTT hI P2_lt P4_lt P6_lt
   generalize hF : putE _ _ _ _ _ _ _ = FF
   have hF2 : FF = { tmps := #[.agg X, .int .i64 v, .pointer (some ⟨g0, 0, none⟩), undef, .pointer (some ⟨g0 + 1, 0, none⟩), .bool false, .pointer (some ⟨g6, 0, none⟩), .bool true, .pointer (some ⟨G 15, 0, none⟩), .pointer (some ⟨g0, 1, none⟩), .int .i64 c, .bool false, undef, .tuple #[.agg (wCe u), .bool true], .pointer (some ⟨g0, 4, none⟩), .agg (wCe z), .int .i64 v, .agg (wCe v), .tuple #[.agg (wCe u), .bool true], .agg (wCe u), .bool true, .pointer (some ⟨g0, 0, none⟩), .int .i64 t, .pointer (some ⟨g0, 1, none⟩), .int .i64 c, .int .i64 (c + 1), .pointer (some ⟨g0, 2, none⟩), .int .i64 lo, .int .i64 v, .int .i64 (min lo v), .pointer (some ⟨g0, 3, none⟩), .int .i64 hi, .int .i64 v, .int .i64 (max hi v), .agg (wCe u), .agg (meC t (c + 1) (min lo v) (max hi v) u), undef, undef, undef, undef, undef], defers := [] } := by subst hF; kernel_rfl
   clear hF
   subst hF2
   generalize G 15 = g8 at *
   go_upto_region 5 with fail
   refine wp_region_reads ?_
   repeat (first | go_big_quiet_step (first | with_reducible exact quiet_ret (kn.out _)) | (refine wq_load (by kernel_rfl) rfl rfl (fun w hw => by obtain ⟨⟨d, os⟩, rfl⟩ := hw; exact ld_all ((P8).ext (ext_regrown w32 d os)) uMean rfl iMean (meX_of t (c + 1) (min lo v) (max hi v) u).s) ?_) | quiet_step (first | with_reducible exact quiet_ret (kn.out _)))
   refine wpQuiet_nil ?_
   intro _ hw'
   obtain ⟨⟨dq, osq⟩, hw''⟩ := hw'
   subst hw''
   replace P2 := (P2).ext (ext_regrown w32 dq osq)
   replace P4 := (P4).ext (ext_regrown w32 dq osq)
   replace P6 := (P6).ext (ext_regrown w32 dq osq)
   replace P8 := (P8).ext (ext_regrown w32 dq osq)
   replace EE := hide (EE.out.trans (ext_regrown w32 dq osq))
   obtain ⟨w34, hzq33⟩ : ∃ w, grow (redrawn w32 dq) osq = w := ⟨_, rfl⟩
   rw [hzq33] at EE P2 P4 P6 P8 ⊢
   clear hzq33
   go_upto_region 6 with fail
   have P2_lt := P2.lt
   have P4_lt := P4.lt
   have P6_lt := P6.lt
   have P8_lt := P8.lt
   refine wp_evs [.q, .so 0, .q] [0, 0, 0] (fun R => [.agg z9m, undef, .bool false]) (fun _ => (.cells #[] 0 (0, 0))) (fun R _ => (.cells z9m 27 (0, 0))) (fun _ => g0 + 1) (XE W) (fun _ => False) (by kernel_rfl) (by kernel_rfl) (by kernel_rfl) rfl (fun _ => rfl) (fun _ h => h.elim) (fun _ _ h => h) (by intro c hc; simp at hc; (try subst hc); (try simp only); omega) (by intro c c' h1 h2 _; simp at h1 h2; omega) (fun R R' => ⟨fun _ => rfl, fun _ => rfl, fun _ => rfl, trivial⟩) (fun _ _ _ _ => rfl) xe_below EE.out ?ops37 ?end37
   case ops37 =>
     refine ⟨?_, ?_, ?_, trivial⟩
     · refine er_q ?vn35 ?hn35 ?kn35 ?gn35 ?_
       case hn35 => exact rfl
       case vn35 => exact (fun R => .agg z9m)
       case kn35 => exact (fun R => rfl)
       case gn35 => exact gd_none rfl
       intro R s w' hT hs hw ha
       generalize hA : putE _ _ _ _ _ _ _ = AA
       refine q_buildM (vs := #[]) rfl ?_ (b_me0)
       subst hA
       kernel_rfl
     · refine er_so (c := 0) (Ty := ?Tn36) (p := ?pn36) (x := ?xn36) (g0 + 1) ?fn36 ?un36 ?vn36 ?hn36 ?on36 ?kn36 ?ln36 ?gn36 ?dn36 ?en36 ?_
       case hn36 => exact rfl
       case on36 => exact rfl
       case fn36 => exact (fun R => (.cells z9m 27 (0, 0)))
       case un36 => exact (fun R => .pointer (some ⟨g0 + 1, 0, none⟩))
       case vn36 => exact (fun R => .agg z9m)
       case kn36 => exact (fun R => rfl)
       case ln36 => exact rfl
       case gn36 => exact gd_none rfl
       case dn36 =>
         intro R
         kernel_rfl
       case en36 =>
         intro R
         kernel_rfl
       intro R s ρ w hT hs hp hx hz
       refine ⟨store_rowN (g := (g0 + 1)) rfl hp hx (hz.trans P4) iMean (rfl) (rfl) (z9m_one), fun w1 hF => ext_filled hT hF P4_lo⟩
     · refine er_q ?vn37 ?hn37 ?kn37 ?gn37 ?_
       case hn37 => exact rfl
       case vn37 => exact (fun R => .bool false)
       case kn37 => exact (fun R => rfl)
       case gn37 => exact gd_none rfl
       intro R s w' hT hs hw ha
       go_simp
   case end37 =>
    intro sI R G w38 hI
    have hS := hI.same
    have hTT := hI.holds
    have hz0 := EE.out.size
    replace P2 := P2.sameE hS (fun h => h) (by intro c hc; simp at hc; (try subst hc); (try simp only); omega)
    replace P6 := P6.sameE hS (fun h => h) (by intro c hc; simp at hc; (try subst hc); (try simp only); omega)
    replace P8 := P8.sameE hS (fun h => h) (by intro c hc; simp at hc; (try subst hc); (try simp only); omega)
    replace P4 : Blk w38 (g0 + 1) 27 z9m := hI.olds' 1 (List.mem_range.2 (show 1 < 3 by decide)) 0 rfl
    replace EE := hide (show Ext _ _ from hTT)
    clear hS hz0 hTT hI P2_lt P4_lt P6_lt P8_lt
    generalize hF : putE _ _ _ _ _ _ _ = FF
    have hF2 : FF = { tmps := #[.agg X, .int .i64 v, .pointer (some ⟨g0, 0, none⟩), undef, .pointer (some ⟨g0 + 1, 0, none⟩), .bool false, .pointer (some ⟨g6, 0, none⟩), .bool true, .pointer (some ⟨g8, 0, none⟩), .pointer (some ⟨g0, 1, none⟩), .int .i64 c, .bool false, undef, .tuple #[.agg (wCe u), .bool true], .pointer (some ⟨g0, 4, none⟩), .agg (wCe z), .int .i64 v, .agg (wCe v), .tuple #[.agg (wCe u), .bool true], .agg (wCe u), .bool true, .pointer (some ⟨g0, 0, none⟩), .int .i64 t, .pointer (some ⟨g0, 1, none⟩), .int .i64 c, .int .i64 (c + 1), .pointer (some ⟨g0, 2, none⟩), .int .i64 lo, .int .i64 v, .int .i64 (min lo v), .pointer (some ⟨g0, 3, none⟩), .int .i64 hi, .int .i64 v, .int .i64 (max hi v), .agg (wCe u), .agg (meC t (c + 1) (min lo v) (max hi v) u), .agg (meC t (c + 1) (min lo v) (max hi v) u), .bool false, .bool true, .agg z9m, undef], defers := [] } := by subst hF; kernel_rfl
    clear hF
    subst hF2
    go_wp2_with fail
    exact bodyPost_ret (res2 (p := 4) (u := 5) (ty := 27) rfl _ _ _ 27 z9m _ rfl P4 uMean rfl iMean) rfl ⟨by kernel_rfl, EE.out⟩
set_option maxHeartbeats 3200000 in
set_option maxRecDepth 100000 in
theorem p_extYe (X : Array Value) (t c lo hi z : Int) (hX : MeX X t c lo hi (wCe z)) (v : Int) (u : Int) (d0 : (c == 0) = false) (wr : IntKind.i64.wrap (c + 1) = c + 1) (k1 : Hid (∀ w, Calls Try.prog 68 #[.int .i64 v] w (Ret (.agg (wCe v)) w))) (k2 : Hid (∀ w, Calls Try.prog 73 #[.agg (wCe z), .agg (wCe v)] w (Ret (.tuple #[.agg (wCe u), .bool true]) w))) (kn : Hid (∀ w, Calls Try.prog 57 #[.agg (meC t (c + 1) (min lo v) (max hi v) u)] w (Ret (.bool true) w))) (W : World) : Calls Try.prog 62 #[.agg X, .int .i64 v] W (Ret (.tuple #[.agg (meC t (c + 1) (min lo v) (max hi v) u), .bool true]) W) := by
 have P2 := (Blk.new W 27 X).alloc (.cells z9m 27)
 have P4 := Blk.new (W.alloc (.cells X 27)) 27 z9m
 rw [alloc_size] at P4
 have EE := hide ((ext_alloc W (.cells X 27)).trans (ext_alloc _ (.cells z9m 27)))
 obtain ⟨W1, hW1⟩ : ∃ W1, ((W.alloc (.cells X 27)).alloc (.cells z9m 27)) = W1 := ⟨_, rfl⟩
 obtain ⟨g0, hg⟩ : ∃ g, W.heap.size = g := ⟨_, rfl⟩
 rw [hW1] at P2 P4 EE
 rw [hg] at P2 P4
 have P2_lo : W.heap.size ≤ g0 := by omega
 have P4_lo : W.heap.size ≤ g0 + 1 := by omega
 have HW := hide hW1
 have Hg := hide hg
 clear hW1 hg
 go_enter Try.func62, Try.ntmps62
 go_upto_region 1 with fail
 unfold z9m at HW
 rw [HW.out, Hg.out]
 clear HW Hg
 have cq1_0 := fun d os => (((P2).ext (ext_regrown W1 d os)).cell 1).trans (hX.x1)
 refine wp_region_reads ?_
 repeat (first | go_big_quiet_step (fail) | quiet_step (fail))
 refine wpQuiet_nil ?_
 intro _ hw'
 obtain ⟨⟨dq, osq⟩, hw''⟩ := hw'
 subst hw''
 replace P2 := (P2).ext (ext_regrown W1 dq osq)
 replace P4 := (P4).ext (ext_regrown W1 dq osq)
 replace EE := hide (EE.out.trans (ext_regrown W1 dq osq))
 obtain ⟨w2, hzq1⟩ : ∃ w, grow (redrawn W1 dq) osq = w := ⟨_, rfl⟩
 rw [hzq1] at EE P2 P4 ⊢
 clear hzq1 cq1_0
 go_upto_region 3 with fail
 have P2_lt := P2.lt
 have P4_lt := P4.lt
 refine wp_ev [.q, .q, .q, .q, .q, .q, .q, .q, .al, .st 8, .q] [0, 0, 0, 0, 0, 0, 0, 0, 0, 0, 0] (fun R => [.pointer (some ⟨g0, 4, none⟩), .agg (wCe z), .int .i64 v, .agg (wCe v), .tuple #[.agg (wCe u), .bool true], .tuple #[.agg (wCe u), .bool true], .agg (wCe u), .bool true, undef, undef, .bool true]) (fun _ => (.cells z5 25 (0, 0))) (fun R _ => (.cells (wCe u) 25 (0, 0))) (fun _ => 0) (XE W) (fun _ => False) (by kernel_rfl) (by kernel_rfl) (by kernel_rfl) (by kernel_rfl) rfl (fun _ => rfl) (fun _ h => h.elim) (fun _ _ h => h) (by simp) (by simp) (fun R R' => ⟨fun _ => rfl, fun _ => rfl, fun _ => rfl, fun _ => rfl, fun _ => rfl, fun _ => rfl, fun _ => rfl, fun _ => rfl, fun _ => rfl, fun _ => rfl, fun _ => rfl, trivial⟩) (fun _ _ _ _ => rfl) xe_below (EE.out.trans (ext_drew _)) ?ops13 ?end13
 case ops13 =>
   refine ⟨?_, ?_, ?_, ?_, ?_, ?_, ?_, ?_, ?_, ?_, ?_, trivial⟩
   · refine er_q ?vn3 ?hn3 ?kn3 ?gn3 ?_
     case hn3 => exact rfl
     case vn3 => exact (fun R => .pointer (some ⟨g0, 4, none⟩))
     case kn3 => exact (fun R => rfl)
     case gn3 => exact gd_none rfl
     intro R s w' hT hs hw ha
     go_simp
   · refine er_q ?vn4 ?hn4 ?kn4 ?gn4 ?_
     case hn4 => exact rfl
     case vn4 => exact (fun R => .agg (wCe z))
     case kn4 => exact (fun R => rfl)
     case gn4 => exact gd_none rfl
     intro R s w' hT hs hw ha
     have L := run_load_part (P2.sameE hw (fun h => h) (by simp)) _ _ uWide rfl 4 5 iWide (by rw [hX.s]; first | decide | omega) _ (hX.x4)
     generalize hA : putE _ _ _ _ _ _ _ = AA
     refine q_load rfl ?_ L
     subst hA
     kernel_rfl
   · refine er_q ?vn5 ?hn5 ?kn5 ?gn5 ?_
     case hn5 => exact rfl
     case vn5 => exact (fun R => .int .i64 v)
     case kn5 => exact (fun R => rfl)
     case gn5 => exact gd_none rfl
     intro R s w' hT hs hw ha
     go_simp
   · refine er_q ?vn6 ?hn6 ?kn6 ?gn6 ?_
     case hn6 => exact rfl
     case vn6 => exact (fun R => .agg (wCe v))
     case kn6 => exact (fun R => rfl)
     case gn6 => exact gd_none rfl
     intro R s w' hT hs hw ha
     go_simp
     exact k1.out w'
   · refine er_q ?vn7 ?hn7 ?kn7 ?gn7 ?_
     case hn7 => exact rfl
     case vn7 => exact (fun R => .tuple #[.agg (wCe u), .bool true])
     case kn7 => exact (fun R => rfl)
     case gn7 => exact gd_none rfl
     intro R s w' hT hs hw ha
     go_simp
     exact k2.out w'
   · refine er_q ?vn8 ?hn8 ?kn8 ?gn8 ?_
     case hn8 => exact rfl
     case vn8 => exact (fun R => .tuple #[.agg (wCe u), .bool true])
     case kn8 => exact (fun R => rfl)
     case gn8 => exact gd_none rfl
     intro R s w' hT hs hw ha
     go_simp
   · refine er_q ?vn9 ?hn9 ?kn9 ?gn9 ?_
     case hn9 => exact rfl
     case vn9 => exact (fun R => .agg (wCe u))
     case kn9 => exact (fun R => rfl)
     case gn9 => exact gd_none rfl
     intro R s w' hT hs hw ha
     go_simp
   · refine er_q ?vn10 ?hn10 ?kn10 ?gn10 ?_
     case hn10 => exact rfl
     case vn10 => exact (fun R => .bool true)
     case kn10 => exact (fun R => rfl)
     case gn10 => exact gd_none rfl
     intro R s w' hT hs hw ha
     go_simp
   · refine er_al ?zn11 ?hn11 ?kn11 ?gn11 ?_
     case zn11 => exact (.cells z5 25 (0, 0))
     case hn11 => exact rfl
     case kn11 => exact rfl
     case gn11 => exact gd_none rfl
     intro ρ w'
     go_simp
     exact ⟨rfl, rfl⟩
   · refine er_st (j := 8) (Ty := ?Tn12) (p := ?pn12) (x := ?xn12) ?fn12 ?zn12 ?vn12 ?hn12 ?on12 ?kn12 ?ln12 ?gn12 ?en12 ?_
     case hn12 => exact rfl
     case on12 => exact rfl
     case fn12 => exact (fun R => (.cells (wCe u) 25 (0, 0)))
     case zn12 => exact (.cells z5 25 (0, 0))
     case vn12 => exact (fun R => .agg (wCe u))
     case kn12 => exact (fun R => rfl)
     case ln12 => exact rfl
     case gn12 => exact gd_none rfl
     case en12 =>
       intro R
       kernel_rfl
     intro R s ρ w g hT hs hp hx hg hz
     exact ⟨store_row rfl hp hx hz iWide ((wC_size u)) ((wC_onee u)), fun w1 hF => ext_filled hT hF (Nat.le_trans EE.out.size hg)⟩
   · refine er_q ?vn13 ?hn13 ?kn13 ?gn13 ?_
     case hn13 => exact rfl
     case vn13 => exact (fun R => .bool true)
     case kn13 => exact (fun R => rfl)
     case gn13 => exact gd_none rfl
     intro R s w' hT hs hw ha
     go_simp
 case end13 =>
  intro sI R G w14 hI
  have hS := hI.same
  have hTT := hI.holds
  have hz0 := EE.out.size
  replace P2 := P2.sameE hS (fun h => h) (by simp)
  replace P4 := P4.sameE hS (fun h => h) (by simp)
  have P6 : Blk w14 (G 8) 25 (wCe u) := (hI.fulls 9 (List.mem_range.2 (show 9 < 11 by decide)) 8 rfl).2.2
  have hmP6 := (hI.made 8 (List.mem_range.2 (show 8 < 11 by decide)) rfl).1
  have P6_lo : W.heap.size ≤ G 8 := Nat.le_trans hz0 hmP6
  have ngP2_6 : g0 ≠ G 8 := by omega
  have ngP4_6 : g0 + 1 ≠ G 8 := by omega
  replace EE := hide (show Ext _ _ from hTT)
  clear hS hz0 hTT hI P2_lt P4_lt
  generalize hF : putE _ _ _ _ _ _ _ = FF
  have hF2 : FF = { tmps := #[.agg X, .int .i64 v, .pointer (some ⟨g0, 0, none⟩), undef, .pointer (some ⟨g0 + 1, 0, none⟩), .bool false, .pointer (some ⟨G 8, 0, none⟩), .bool true, undef, .pointer (some ⟨g0, 1, none⟩), .int .i64 c, .bool false, undef, .tuple #[.agg (wCe u), .bool true], .pointer (some ⟨g0, 4, none⟩), .agg (wCe z), .int .i64 v, .agg (wCe v), .tuple #[.agg (wCe u), .bool true], .agg (wCe u), .bool true, undef, undef, undef, undef, undef, undef, undef, undef, undef, undef, undef, undef, undef, undef, undef, undef, undef, undef, undef, undef], defers := [] } := by subst hF; kernel_rfl
  clear hF
  subst hF2
  generalize G 8 = g6 at *
  go_upto_region 4 with fail
  have P2_lt := P2.lt
  have P4_lt := P4.lt
  have P6_lt := P6.lt
  refine wp_evs [.q, .q, .q, .q, .q, .q, .q, .q, .q, .q, .q, .q, .q, .q, .q, .al, .st 15] [0, 0, 0, 0, 0, 0, 0, 0, 0, 0, 0, 0, 0, 0, 0, 0, 0] (fun R => [.pointer (some ⟨g0, 0, none⟩), .int .i64 t, .pointer (some ⟨g0, 1, none⟩), .int .i64 c, .int .i64 (c + 1), .pointer (some ⟨g0, 2, none⟩), .int .i64 lo, .int .i64 v, .int .i64 (min lo v), .pointer (some ⟨g0, 3, none⟩), .int .i64 hi, .int .i64 v, .int .i64 (max hi v), .agg (wCe u), .agg (meC t (c + 1) (min lo v) (max hi v) u), undef, undef]) (fun _ => (.cells z9m 27 (0, 0))) (fun R _ => (.cells (meC t (c + 1) (min lo v) (max hi v) u) 27 (0, 0))) (fun _ => 0) (XE W) (fun _ => False) (by kernel_rfl) (by kernel_rfl) (by kernel_rfl) rfl (fun _ => rfl) (fun _ h => h.elim) (fun _ _ h => h) (by simp) (by simp) (fun R R' => ⟨fun _ => rfl, fun _ => rfl, fun _ => rfl, fun _ => rfl, fun _ => rfl, fun _ => rfl, fun _ => rfl, fun _ => rfl, fun _ => rfl, fun _ => rfl, fun _ => rfl, fun _ => rfl, fun _ => rfl, fun _ => rfl, fun _ => rfl, fun _ => rfl, fun _ => rfl, trivial⟩) (fun _ _ _ _ => rfl) xe_below EE.out ?ops31 ?end31
  case ops31 =>
    refine ⟨?_, ?_, ?_, ?_, ?_, ?_, ?_, ?_, ?_, ?_, ?_, ?_, ?_, ?_, ?_, ?_, ?_, trivial⟩
    · refine er_q ?vn15 ?hn15 ?kn15 ?gn15 ?_
      case hn15 => exact rfl
      case vn15 => exact (fun R => .pointer (some ⟨g0, 0, none⟩))
      case kn15 => exact (fun R => rfl)
      case gn15 => exact gd_none rfl
      intro R s w' hT hs hw ha
      go_simp
    · refine er_q ?vn16 ?hn16 ?kn16 ?gn16 ?_
      case hn16 => exact rfl
      case vn16 => exact (fun R => .int .i64 t)
      case kn16 => exact (fun R => rfl)
      case gn16 => exact gd_none rfl
      intro R s w' hT hs hw ha
      have cc := ((show Blk w' g0 _ X from P2.sameE hw (fun h => h) (by simp)).cell 0).trans (hX.x0)
      go_simp
    · refine er_q ?vn17 ?hn17 ?kn17 ?gn17 ?_
      case hn17 => exact rfl
      case vn17 => exact (fun R => .pointer (some ⟨g0, 1, none⟩))
      case kn17 => exact (fun R => rfl)
      case gn17 => exact gd_none rfl
      intro R s w' hT hs hw ha
      go_simp
    · refine er_q ?vn18 ?hn18 ?kn18 ?gn18 ?_
      case hn18 => exact rfl
      case vn18 => exact (fun R => .int .i64 c)
      case kn18 => exact (fun R => rfl)
      case gn18 => exact gd_none rfl
      intro R s w' hT hs hw ha
      have cc := ((show Blk w' g0 _ X from P2.sameE hw (fun h => h) (by simp)).cell 1).trans (hX.x1)
      go_simp
    · refine er_q ?vn19 ?hn19 ?kn19 ?gn19 ?_
      case hn19 => exact rfl
      case vn19 => exact (fun R => .int .i64 (c + 1))
      case kn19 => exact (fun R => rfl)
      case gn19 => exact gd_none rfl
      intro R s w' hT hs hw ha
      go_simp
    · refine er_q ?vn20 ?hn20 ?kn20 ?gn20 ?_
      case hn20 => exact rfl
      case vn20 => exact (fun R => .pointer (some ⟨g0, 2, none⟩))
      case kn20 => exact (fun R => rfl)
      case gn20 => exact gd_none rfl
      intro R s w' hT hs hw ha
      go_simp
    · refine er_q ?vn21 ?hn21 ?kn21 ?gn21 ?_
      case hn21 => exact rfl
      case vn21 => exact (fun R => .int .i64 lo)
      case kn21 => exact (fun R => rfl)
      case gn21 => exact gd_none rfl
      intro R s w' hT hs hw ha
      have cc := ((show Blk w' g0 _ X from P2.sameE hw (fun h => h) (by simp)).cell 2).trans (hX.x2)
      go_simp
    · refine er_q ?vn22 ?hn22 ?kn22 ?gn22 ?_
      case hn22 => exact rfl
      case vn22 => exact (fun R => .int .i64 v)
      case kn22 => exact (fun R => rfl)
      case gn22 => exact gd_none rfl
      intro R s w' hT hs hw ha
      go_simp
    · refine er_q ?vn23 ?hn23 ?kn23 ?gn23 ?_
      case hn23 => exact rfl
      case vn23 => exact (fun R => .int .i64 (min lo v))
      case kn23 => exact (fun R => rfl)
      case gn23 => exact gd_none rfl
      intro R s w' hT hs hw ha
      go_simp
    · refine er_q ?vn24 ?hn24 ?kn24 ?gn24 ?_
      case hn24 => exact rfl
      case vn24 => exact (fun R => .pointer (some ⟨g0, 3, none⟩))
      case kn24 => exact (fun R => rfl)
      case gn24 => exact gd_none rfl
      intro R s w' hT hs hw ha
      go_simp
    · refine er_q ?vn25 ?hn25 ?kn25 ?gn25 ?_
      case hn25 => exact rfl
      case vn25 => exact (fun R => .int .i64 hi)
      case kn25 => exact (fun R => rfl)
      case gn25 => exact gd_none rfl
      intro R s w' hT hs hw ha
      have cc := ((show Blk w' g0 _ X from P2.sameE hw (fun h => h) (by simp)).cell 3).trans (hX.x3)
      go_simp
    · refine er_q ?vn26 ?hn26 ?kn26 ?gn26 ?_
      case hn26 => exact rfl
      case vn26 => exact (fun R => .int .i64 v)
      case kn26 => exact (fun R => rfl)
      case gn26 => exact gd_none rfl
      intro R s w' hT hs hw ha
      go_simp
    · refine er_q ?vn27 ?hn27 ?kn27 ?gn27 ?_
      case hn27 => exact rfl
      case vn27 => exact (fun R => .int .i64 (max hi v))
      case kn27 => exact (fun R => rfl)
      case gn27 => exact gd_none rfl
      intro R s w' hT hs hw ha
      go_simp
    · refine er_q ?vn28 ?hn28 ?kn28 ?gn28 ?_
      case hn28 => exact rfl
      case vn28 => exact (fun R => .agg (wCe u))
      case kn28 => exact (fun R => rfl)
      case gn28 => exact gd_none rfl
      intro R s w' hT hs hw ha
      have L := ld_all (P6.sameE hw (fun h => h) (by simp)) uWide rfl iWide (wC_size u)
      generalize hA : putE _ _ _ _ _ _ _ = AA
      refine q_load rfl ?_ L
      subst hA
      kernel_rfl
    · refine er_q ?vn29 ?hn29 ?kn29 ?gn29 ?_
      case hn29 => exact rfl
      case vn29 => exact (fun R => .agg (meC t (c + 1) (min lo v) (max hi v) u))
      case kn29 => exact (fun R => rfl)
      case gn29 => exact gd_none rfl
      intro R s w' hT hs hw ha
      generalize hA : putE _ _ _ _ _ _ _ = AA
      refine q_buildM (vs := #[(0, .int .i64 t), (1, .int .i64 (c + 1)), (2, .int .i64 (min lo v)), (3, .int .i64 (max hi v)), (4, .agg (wCe u))]) rfl ?_ (b_me5w t (c + 1) (min lo v) (max hi v) u)
      subst hA
      kernel_rfl
    · refine er_al ?zn30 ?hn30 ?kn30 ?gn30 ?_
      case zn30 => exact (.cells z9m 27 (0, 0))
      case hn30 => exact rfl
      case kn30 => exact rfl
      case gn30 => exact gd_none rfl
      intro ρ w'
      go_simp
      exact ⟨rfl, rfl⟩
    · refine er_st (j := 15) (Ty := ?Tn31) (p := ?pn31) (x := ?xn31) ?fn31 ?zn31 ?vn31 ?hn31 ?on31 ?kn31 ?ln31 ?gn31 ?en31 ?_
      case hn31 => exact rfl
      case on31 => exact rfl
      case fn31 => exact (fun R => (.cells (meC t (c + 1) (min lo v) (max hi v) u) 27 (0, 0)))
      case zn31 => exact (.cells z9m 27 (0, 0))
      case vn31 => exact (fun R => .agg (meC t (c + 1) (min lo v) (max hi v) u))
      case kn31 => exact (fun R => rfl)
      case ln31 => exact rfl
      case gn31 => exact gd_none rfl
      case en31 =>
        intro R
        kernel_rfl
      intro R s ρ w g hT hs hp hx hg hz
      exact ⟨store_row rfl hp hx hz iMean ((meX_of t (c + 1) (min lo v) (max hi v) u).s) ((meX_of t (c + 1) (min lo v) (max hi v) u).o), fun w1 hF => ext_filled hT hF (Nat.le_trans EE.out.size hg)⟩
  case end31 =>
   intro sI R G w32 hI
   have hS := hI.same
   have hTT := hI.holds
   have hz0 := EE.out.size
   replace P2 := P2.sameE hS (fun h => h) (by simp)
   replace P4 := P4.sameE hS (fun h => h) (by simp)
   replace P6 := P6.sameE hS (fun h => h) (by simp)
   have P8 : Blk w32 (G 15) 27 (meC t (c + 1) (min lo v) (max hi v) u) := (hI.fulls 16 (List.mem_range.2 (show 16 < 17 by decide)) 15 rfl).2.2
   have hmP8 := (hI.made 15 (List.mem_range.2 (show 15 < 17 by decide)) rfl).1
   have P8_lo : W.heap.size ≤ G 15 := Nat.le_trans hz0 hmP8
   have ngP2_8 : g0 ≠ G 15 := by omega
   have ngP4_8 : g0 + 1 ≠ G 15 := by omega
   have ngP6_8 : g6 ≠ G 15 := by omega
   replace EE := hide (show Ext _ _ from hTT)
   clear hS hz0 hTT hI P2_lt P4_lt P6_lt
   generalize hF : putE _ _ _ _ _ _ _ = FF
   have hF2 : FF = { tmps := #[.agg X, .int .i64 v, .pointer (some ⟨g0, 0, none⟩), undef, .pointer (some ⟨g0 + 1, 0, none⟩), .bool false, .pointer (some ⟨g6, 0, none⟩), .bool true, .pointer (some ⟨G 15, 0, none⟩), .pointer (some ⟨g0, 1, none⟩), .int .i64 c, .bool false, undef, .tuple #[.agg (wCe u), .bool true], .pointer (some ⟨g0, 4, none⟩), .agg (wCe z), .int .i64 v, .agg (wCe v), .tuple #[.agg (wCe u), .bool true], .agg (wCe u), .bool true, .pointer (some ⟨g0, 0, none⟩), .int .i64 t, .pointer (some ⟨g0, 1, none⟩), .int .i64 c, .int .i64 (c + 1), .pointer (some ⟨g0, 2, none⟩), .int .i64 lo, .int .i64 v, .int .i64 (min lo v), .pointer (some ⟨g0, 3, none⟩), .int .i64 hi, .int .i64 v, .int .i64 (max hi v), .agg (wCe u), .agg (meC t (c + 1) (min lo v) (max hi v) u), undef, undef, undef, undef, undef], defers := [] } := by subst hF; kernel_rfl
   clear hF
   subst hF2
   generalize G 15 = g8 at *
   go_upto_region 5 with fail
   refine wp_region_reads ?_
   repeat (first | go_big_quiet_step (first | with_reducible exact quiet_ret (kn.out _)) | (refine wq_load (by kernel_rfl) rfl rfl (fun w hw => by obtain ⟨⟨d, os⟩, rfl⟩ := hw; exact ld_all ((P8).ext (ext_regrown w32 d os)) uMean rfl iMean (meX_of t (c + 1) (min lo v) (max hi v) u).s) ?_) | quiet_step (first | with_reducible exact quiet_ret (kn.out _)))
   refine wpQuiet_nil ?_
   intro _ hw'
   obtain ⟨⟨dq, osq⟩, hw''⟩ := hw'
   subst hw''
   replace P2 := (P2).ext (ext_regrown w32 dq osq)
   replace P4 := (P4).ext (ext_regrown w32 dq osq)
   replace P6 := (P6).ext (ext_regrown w32 dq osq)
   replace P8 := (P8).ext (ext_regrown w32 dq osq)
   replace EE := hide (EE.out.trans (ext_regrown w32 dq osq))
   obtain ⟨w34, hzq33⟩ : ∃ w, grow (redrawn w32 dq) osq = w := ⟨_, rfl⟩
   rw [hzq33] at EE P2 P4 P6 P8 ⊢
   clear hzq33
   go_upto_region 7 with fail
   have P2_lt := P2.lt
   have P4_lt := P4.lt
   have P6_lt := P6.lt
   have P8_lt := P8.lt
   refine wp_evs [.q, .so 0, .q] [0, 0, 0] (fun R => [.agg (meC t (c + 1) (min lo v) (max hi v) u), undef, .bool true]) (fun _ => (.cells #[] 0 (0, 0))) (fun R _ => (.cells (meC t (c + 1) (min lo v) (max hi v) u) 27 (0, 0))) (fun _ => g0 + 1) (XE W) (fun _ => False) (by kernel_rfl) (by kernel_rfl) (by kernel_rfl) rfl (fun _ => rfl) (fun _ h => h.elim) (fun _ _ h => h) (by intro c hc; simp at hc; (try subst hc); (try simp only); omega) (by intro c c' h1 h2 _; simp at h1 h2; omega) (fun R R' => ⟨fun _ => rfl, fun _ => rfl, fun _ => rfl, trivial⟩) (fun _ _ _ _ => rfl) xe_below EE.out ?ops37 ?end37
   case ops37 =>
     refine ⟨?_, ?_, ?_, trivial⟩
     · refine er_q ?vn35 ?hn35 ?kn35 ?gn35 ?_
       case hn35 => exact rfl
       case vn35 => exact (fun R => .agg (meC t (c + 1) (min lo v) (max hi v) u))
       case kn35 => exact (fun R => rfl)
       case gn35 => exact gd_none rfl
       intro R s w' hT hs hw ha
       have L := ld_all (P8.sameE hw (fun h => h) (by intro c hc; simp at hc; (try subst hc); (try simp only); omega)) uMean rfl iMean (meX_of t (c + 1) (min lo v) (max hi v) u).s
       generalize hA : putE _ _ _ _ _ _ _ = AA
       refine q_load rfl ?_ L
       subst hA
       kernel_rfl
     · refine er_so (c := 0) (Ty := ?Tn36) (p := ?pn36) (x := ?xn36) (g0 + 1) ?fn36 ?un36 ?vn36 ?hn36 ?on36 ?kn36 ?ln36 ?gn36 ?dn36 ?en36 ?_
       case hn36 => exact rfl
       case on36 => exact rfl
       case fn36 => exact (fun R => (.cells (meC t (c + 1) (min lo v) (max hi v) u) 27 (0, 0)))
       case un36 => exact (fun R => .pointer (some ⟨g0 + 1, 0, none⟩))
       case vn36 => exact (fun R => .agg (meC t (c + 1) (min lo v) (max hi v) u))
       case kn36 => exact (fun R => rfl)
       case ln36 => exact rfl
       case gn36 => exact gd_none rfl
       case dn36 =>
         intro R
         kernel_rfl
       case en36 =>
         intro R
         kernel_rfl
       intro R s ρ w hT hs hp hx hz
       refine ⟨store_rowN (g := (g0 + 1)) rfl hp hx (hz.trans P4) iMean (rfl) ((meX_of t (c + 1) (min lo v) (max hi v) u).s) ((meX_of t (c + 1) (min lo v) (max hi v) u).o), fun w1 hF => ext_filled hT hF P4_lo⟩
     · refine er_q ?vn37 ?hn37 ?kn37 ?gn37 ?_
       case hn37 => exact rfl
       case vn37 => exact (fun R => .bool true)
       case kn37 => exact (fun R => rfl)
       case gn37 => exact gd_none rfl
       intro R s w' hT hs hw ha
       go_simp
   case end37 =>
    intro sI R G w38 hI
    have hS := hI.same
    have hTT := hI.holds
    have hz0 := EE.out.size
    replace P2 := P2.sameE hS (fun h => h) (by intro c hc; simp at hc; (try subst hc); (try simp only); omega)
    replace P6 := P6.sameE hS (fun h => h) (by intro c hc; simp at hc; (try subst hc); (try simp only); omega)
    replace P8 := P8.sameE hS (fun h => h) (by intro c hc; simp at hc; (try subst hc); (try simp only); omega)
    replace P4 : Blk w38 (g0 + 1) 27 (meC t (c + 1) (min lo v) (max hi v) u) := hI.olds' 1 (List.mem_range.2 (show 1 < 3 by decide)) 0 rfl
    replace EE := hide (show Ext _ _ from hTT)
    clear hS hz0 hTT hI P2_lt P4_lt P6_lt P8_lt
    generalize hF : putE _ _ _ _ _ _ _ = FF
    have hF2 : FF = { tmps := #[.agg X, .int .i64 v, .pointer (some ⟨g0, 0, none⟩), undef, .pointer (some ⟨g0 + 1, 0, none⟩), .bool true, .pointer (some ⟨g6, 0, none⟩), .bool true, .pointer (some ⟨g8, 0, none⟩), .pointer (some ⟨g0, 1, none⟩), .int .i64 c, .bool false, undef, .tuple #[.agg (wCe u), .bool true], .pointer (some ⟨g0, 4, none⟩), .agg (wCe z), .int .i64 v, .agg (wCe v), .tuple #[.agg (wCe u), .bool true], .agg (wCe u), .bool true, .pointer (some ⟨g0, 0, none⟩), .int .i64 t, .pointer (some ⟨g0, 1, none⟩), .int .i64 c, .int .i64 (c + 1), .pointer (some ⟨g0, 2, none⟩), .int .i64 lo, .int .i64 v, .int .i64 (min lo v), .pointer (some ⟨g0, 3, none⟩), .int .i64 hi, .int .i64 v, .int .i64 (max hi v), .agg (wCe u), .agg (meC t (c + 1) (min lo v) (max hi v) u), .agg (meC t (c + 1) (min lo v) (max hi v) u), .bool true, .bool false, undef, .agg (meC t (c + 1) (min lo v) (max hi v) u)], defers := [] } := by subst hF; kernel_rfl
    clear hF
    subst hF2
    go_wp2_with fail
    exact bodyPost_ret (res2 (p := 4) (u := 5) (ty := 27) rfl _ _ _ 27 (meC t (c + 1) (min lo v) (max hi v) u) _ rfl P4 uMean rfl iMean) rfl ⟨by kernel_rfl, EE.out⟩
set_option maxHeartbeats 3200000 in
set_option maxRecDepth 100000 in
theorem p_end0 (X S : Array Value) (t c lo hi : Int) (hX : MeX X t c lo hi S) (sS : S.size = 5) (oS : S.all (·.oneCell') = true) (d0 : (c == 0) = true) (W : World) : Calls Try.prog 52 #[.agg X] W (CoGet [] W) := by
 have P1 := Blk.new W 27 X
 have EE := hide (ext_alloc W (.cells X 27))
 obtain ⟨W1, hW1⟩ : ∃ W1, (W.alloc (.cells X 27)) = W1 := ⟨_, rfl⟩
 obtain ⟨g0, hg⟩ : ∃ g, W.heap.size = g := ⟨_, rfl⟩
 rw [hW1] at P1 EE
 rw [hg] at P1
 have P1_lo : W.heap.size ≤ g0 := by omega
 have HW := hide hW1
 have Hg := hide hg
 clear hW1 hg
 go_enter Try.func52, Try.ntmps52
 go_upto_region 1 with fail
 rw [HW.out, Hg.out]
 clear HW Hg
 have cq1_0 := fun d os => (((P1).ext (ext_regrown W1 d os)).cell 1).trans (hX.x1)
 refine wp_region_reads ?_
 repeat (first | go_big_quiet_step (fail) | quiet_step (fail))
 refine wpQuiet_nil ?_
 intro _ hw'
 obtain ⟨⟨dq, osq⟩, hw''⟩ := hw'
 subst hw''
 replace P1 := (P1).ext (ext_regrown W1 dq osq)
 replace EE := hide (EE.out.trans (ext_regrown W1 dq osq))
 obtain ⟨w2, hzq1⟩ : ∃ w, grow (redrawn W1 dq) osq = w := ⟨_, rfl⟩
 rw [hzq1] at EE P1 ⊢
 clear hzq1 cq1_0
 go_wp2_with fail
 go_ret
 exact ⟨none, 0, rfl, OwnC.nil_ _ _, EE.out⟩
set_option maxHeartbeats 3200000 in
set_option maxRecDepth 100000 in
theorem p_endYe (X S : Array Value) (t c lo hi : Int) (hX : MeX X t c lo hi S) (q : Int) (sS : S.size = 5) (oS : S.all (·.oneCell') = true) (d0 : (c == 0) = false) (ic : I64 c) (iq : I64 q) (ka : Hid (∀ w, Calls Try.prog 67 #[.agg X] w (Ret (.int .i64 q) w))) (W : World) : Calls Try.prog 52 #[.agg X] W (CoGet [(c, q)] W) := by
 have P1 := Blk.new W 27 X
 have EE := hide (ext_alloc W (.cells X 27))
 obtain ⟨W1, hW1⟩ : ∃ W1, (W.alloc (.cells X 27)) = W1 := ⟨_, rfl⟩
 obtain ⟨g0, hg⟩ : ∃ g, W.heap.size = g := ⟨_, rfl⟩
 rw [hW1] at P1 EE
 rw [hg] at P1
 have P1_lo : W.heap.size ≤ g0 := by omega
 have HW := hide hW1
 have Hg := hide hg
 clear hW1 hg
 go_enter Try.func52, Try.ntmps52
 go_upto_region 1 with fail
 rw [HW.out, Hg.out]
 clear HW Hg
 have cq1_0 := fun d os => (((P1).ext (ext_regrown W1 d os)).cell 1).trans (hX.x1)
 refine wp_region_reads ?_
 repeat (first | go_big_quiet_step (fail) | quiet_step (fail))
 refine wpQuiet_nil ?_
 intro _ hw'
 obtain ⟨⟨dq, osq⟩, hw''⟩ := hw'
 subst hw''
 replace P1 := (P1).ext (ext_regrown W1 dq osq)
 replace EE := hide (EE.out.trans (ext_regrown W1 dq osq))
 obtain ⟨w2, hzq1⟩ : ∃ w, grow (redrawn W1 dq) osq = w := ⟨_, rfl⟩
 rw [hzq1] at EE P1 ⊢
 clear hzq1 cq1_0
 go_upto_region 3 with fail
 have P1_lt := P1.lt
 refine wp_ev [.q, .q, .q, .q, .q, .ev 0, .q] [0, 0, 0, 0, 0, 0, 1] (fun R => [.pointer (some ⟨g0, 1, none⟩), .int .i64 c, .agg X, .int .i64 q, .agg (coR c q), undef, (R 0)]) (fun _ => (.cells #[] 0 (0, 0))) (fun R _ => (.cells #[] 0 (0, 0))) (fun _ => 0) (CS W [(c, q)]) (fun _ => False) (by kernel_rfl) (by kernel_rfl) (by kernel_rfl) (by kernel_rfl) rfl (fun _ => rfl) (fun _ h => h.elim) (fun _ _ h => h) (by simp) (by simp) (fun R R' => ⟨fun _ => rfl, fun _ => rfl, fun _ => rfl, fun _ => rfl, fun _ => rfl, fun _ => rfl, fun h => by simp only [h 0 (by decide)], trivial⟩) (fun _ _ _ _ => rfl) cs_below ⟨EE.out.trans (ext_drew _), fun h => absurd h (by decide)⟩ ?ops9 ?end9
 case ops9 =>
   refine ⟨?_, ?_, ?_, ?_, ?_, ?_, ?_, trivial⟩
   · refine er_q ?vn3 ?hn3 ?kn3 ?gn3 ?_
     case hn3 => exact rfl
     case vn3 => exact (fun R => .pointer (some ⟨g0, 1, none⟩))
     case kn3 => exact (fun R => rfl)
     case gn3 => exact gd_none rfl
     intro R s w' hT hs hw ha
     go_simp
   · refine er_q ?vn4 ?hn4 ?kn4 ?gn4 ?_
     case hn4 => exact rfl
     case vn4 => exact (fun R => .int .i64 c)
     case kn4 => exact (fun R => rfl)
     case gn4 => exact gd_none rfl
     intro R s w' hT hs hw ha
     have cc := ((show Blk w' g0 _ X from P1.sameE hw (fun h => h) (by simp)).cell 1).trans (hX.x1)
     go_simp
   · refine er_q ?vn5 ?hn5 ?kn5 ?gn5 ?_
     case hn5 => exact rfl
     case vn5 => exact (fun R => .agg X)
     case kn5 => exact (fun R => rfl)
     case gn5 => exact gd_none rfl
     intro R s w' hT hs hw ha
     have L := ld_all (P1.sameE hw (fun h => h) (by simp)) uMean rfl iMean hX.s
     generalize hA : putE _ _ _ _ _ _ _ = AA
     refine q_load rfl ?_ L
     subst hA
     kernel_rfl
   · refine er_q ?vn6 ?hn6 ?kn6 ?gn6 ?_
     case hn6 => exact rfl
     case vn6 => exact (fun R => .int .i64 q)
     case kn6 => exact (fun R => rfl)
     case gn6 => exact gd_none rfl
     intro R s w' hT hs hw ha
     go_simp
     exact ka.out w'
   · refine er_q ?vn7 ?hn7 ?kn7 ?gn7 ?_
     case hn7 => exact rfl
     case vn7 => exact (fun R => .agg (coR c q))
     case kn7 => exact (fun R => rfl)
     case gn7 => exact gd_none rfl
     intro R s w' hT hs hw ha
     generalize hA : putE _ _ _ _ _ _ _ = AA
     refine q_buildM (vs := #[(0, .int .i64 c), (1, .int .i64 q)]) rfl ?_ (b_co c q)
     subst hA
     kernel_rfl
   · refine er_ev (m := 0) ?hn8 ?gn8 ?_
     case hn8 => exact rfl
     case gn8 => exact gd_none rfl
     intro R w' hT hw
     generalize hA : putE _ _ _ _ _ _ _ = AA
     refine ev_co1 c q rfl ?_ (cs_one hT ic iq)
     subst hA
     kernel_rfl
   · refine er_q ?vn9 ?hn9 ?kn9 ?gn9 ?_
     case hn9 => exact rfl
     case vn9 => exact (fun R => (R 0))
     case kn9 => exact (fun R => rfl)
     case gn9 => exact gd_none rfl
     intro R s w' hT hs hw ha
     go_simp
 case end9 =>
  intro sI R G w10 hI
  have hS := hI.same
  have hTT := hI.holds
  have hz0 := EE.out.size
  have hs0 : 0 < sI := (hI.stage 5 (show 5 < 7 by decide) 0 rfl).1 (List.mem_range.2 (show 5 < 7 by decide))
  obtain ⟨A1, k1, e1, O1⟩ := hTT.2 hs0
  replace P1 := P1.sameE hS (fun h => h) (by simp)
  replace EE := hide hTT.1
  clear hS hz0 hTT hI P1_lt
  generalize hF : putE _ _ _ _ _ _ _ = FF
  have hF2 : FF = { tmps := #[.agg X, .pointer (some ⟨g0, 0, none⟩), (R 0), .pointer (some ⟨g0, 1, none⟩), .int .i64 c, .bool false, .pointer (some ⟨g0, 1, none⟩), .int .i64 c, .agg X, .int .i64 q, .agg (coR c q), (R 0)], defers := [] } := by subst hF; kernel_rfl
  clear hF
  subst hF2
  (try simp only [e1])
  have O1 := hide O1
  go_wp2_with fail
  go_ret
  exact ⟨A1, k1, rfl, O1.out, EE.out⟩
set_option maxHeartbeats 3200000 in
set_option maxRecDepth 100000 in
theorem r_fin0 (X S : Array Value) (t c lo hi : Int) (hX : MeX X t c lo hi S) (kv : Hid (∀ w, Calls Try.prog 39 #[.agg X] w (Ret (.bool true) w))) (d0 : (c == 0) = true) (W : World) : Calls Try.prog 37 #[.agg X] W (CoFin [] 0 W) := by
 have P1 := Blk.new W 27 X
 have EE := hide (ext_alloc W (.cells X 27))
 obtain ⟨W1, hW1⟩ : ∃ W1, (W.alloc (.cells X 27)) = W1 := ⟨_, rfl⟩
 obtain ⟨g0, hg⟩ : ∃ g, W.heap.size = g := ⟨_, rfl⟩
 rw [hW1] at P1 EE
 rw [hg] at P1
 have P1_lo : W.heap.size ≤ g0 := by omega
 have HW := hide hW1
 have Hg := hide hg
 clear hW1 hg
 go_enter Try.func37, Try.ntmps37
 go_upto_region 1 with fail
 rw [HW.out, Hg.out]
 clear HW Hg
 refine wp_region_reads ?_
 repeat (first | go_big_quiet_step (first | with_reducible exact quiet_ret (kv.out _)) | (refine wq_load (by kernel_rfl) rfl rfl (fun w hw => by obtain ⟨⟨d, os⟩, rfl⟩ := hw; exact ld_all ((P1).ext (ext_regrown W1 d os)) uMean rfl iMean hX.s) ?_) | quiet_step (first | with_reducible exact quiet_ret (kv.out _)))
 refine wpQuiet_nil ?_
 intro _ hw'
 obtain ⟨⟨dq, osq⟩, hw''⟩ := hw'
 subst hw''
 replace P1 := (P1).ext (ext_regrown W1 dq osq)
 replace EE := hide (EE.out.trans (ext_regrown W1 dq osq))
 obtain ⟨w2, hzq1⟩ : ∃ w, grow (redrawn W1 dq) osq = w := ⟨_, rfl⟩
 rw [hzq1] at EE P1 ⊢
 clear hzq1
 go_upto_region 3 with fail
 have cq3_0 := fun d os => (((P1).ext (ext_regrown w2 d os)).cell 1).trans (hX.x1)
 refine wp_region_reads ?_
 repeat (first | go_big_quiet_step (fail) | quiet_step (fail))
 refine wpQuiet_nil ?_
 intro _ hw'
 obtain ⟨⟨dq, osq⟩, hw''⟩ := hw'
 subst hw''
 replace P1 := (P1).ext (ext_regrown w2 dq osq)
 replace EE := hide (EE.out.trans (ext_regrown w2 dq osq))
 obtain ⟨w4, hzq3⟩ : ∃ w, grow (redrawn w2 dq) osq = w := ⟨_, rfl⟩
 rw [hzq3] at EE P1 ⊢
 clear hzq3 cq3_0
 go_wp2_with fail
 go_ret2
 exact ⟨none, 0, rfl, OwnC.nil_ _ _, EE.out⟩
set_option maxHeartbeats 3200000 in
set_option maxRecDepth 100000 in
theorem r_finYe (X S : Array Value) (t c lo hi : Int) (hX : MeX X t c lo hi S) (q : Int) (kv : Hid (∀ w, Calls Try.prog 39 #[.agg X] w (Ret (.bool true) w))) (d0 : (c == 0) = false) (ic : I64 c) (iq : I64 q) (ka : Hid (∀ w, Calls Try.prog 53 #[.agg X] w (Ret (.tuple #[.int .i64 q, .bool true]) w))) (W : World) : Calls Try.prog 37 #[.agg X] W (CoFin [(c, q)] 0 W) := by
 have P1 := Blk.new W 27 X
 have EE := hide (ext_alloc W (.cells X 27))
 obtain ⟨W1, hW1⟩ : ∃ W1, (W.alloc (.cells X 27)) = W1 := ⟨_, rfl⟩
 obtain ⟨g0, hg⟩ : ∃ g, W.heap.size = g := ⟨_, rfl⟩
 rw [hW1] at P1 EE
 rw [hg] at P1
 have P1_lo : W.heap.size ≤ g0 := by omega
 have HW := hide hW1
 have Hg := hide hg
 clear hW1 hg
 go_enter Try.func37, Try.ntmps37
 go_upto_region 1 with fail
 rw [HW.out, Hg.out]
 clear HW Hg
 refine wp_region_reads ?_
 repeat (first | go_big_quiet_step (first | with_reducible exact quiet_ret (kv.out _)) | (refine wq_load (by kernel_rfl) rfl rfl (fun w hw => by obtain ⟨⟨d, os⟩, rfl⟩ := hw; exact ld_all ((P1).ext (ext_regrown W1 d os)) uMean rfl iMean hX.s) ?_) | quiet_step (first | with_reducible exact quiet_ret (kv.out _)))
 refine wpQuiet_nil ?_
 intro _ hw'
 obtain ⟨⟨dq, osq⟩, hw''⟩ := hw'
 subst hw''
 replace P1 := (P1).ext (ext_regrown W1 dq osq)
 replace EE := hide (EE.out.trans (ext_regrown W1 dq osq))
 obtain ⟨w2, hzq1⟩ : ∃ w, grow (redrawn W1 dq) osq = w := ⟨_, rfl⟩
 rw [hzq1] at EE P1 ⊢
 clear hzq1
 go_upto_region 3 with fail
 have cq3_0 := fun d os => (((P1).ext (ext_regrown w2 d os)).cell 1).trans (hX.x1)
 refine wp_region_reads ?_
 repeat (first | go_big_quiet_step (fail) | quiet_step (fail))
 refine wpQuiet_nil ?_
 intro _ hw'
 obtain ⟨⟨dq, osq⟩, hw''⟩ := hw'
 subst hw''
 replace P1 := (P1).ext (ext_regrown w2 dq osq)
 replace EE := hide (EE.out.trans (ext_regrown w2 dq osq))
 obtain ⟨w4, hzq3⟩ : ∃ w, grow (redrawn w2 dq) osq = w := ⟨_, rfl⟩
 rw [hzq3] at EE P1 ⊢
 clear hzq3 cq3_0
 go_upto_region 5 with fail
 refine wp_region_reads ?_
 repeat (first | go_big_quiet_step (first | with_reducible exact quiet_ret (ka.out _)) | (refine wq_load (by kernel_rfl) rfl rfl (fun w hw => by obtain ⟨⟨d, os⟩, rfl⟩ := hw; exact ld_all ((P1).ext (ext_regrown w4 d os)) uMean rfl iMean hX.s) ?_) | quiet_step (first | with_reducible exact quiet_ret (ka.out _)))
 refine wpQuiet_nil ?_
 intro _ hw'
 obtain ⟨⟨dq, osq⟩, hw''⟩ := hw'
 subst hw''
 replace P1 := (P1).ext (ext_regrown w4 dq osq)
 replace EE := hide (EE.out.trans (ext_regrown w4 dq osq))
 obtain ⟨w6, hzq5⟩ : ∃ w, grow (redrawn w4 dq) osq = w := ⟨_, rfl⟩
 rw [hzq5] at EE P1 ⊢
 clear hzq5
 go_upto_region 6 with fail
 have P1_lt := P1.lt
 refine wp_evs [.q, .q, .q, .q, .ev 0, .q, .q] [0, 0, 0, 0, 0, 1, 0] (fun R => [.pointer (some ⟨g0, 1, none⟩), .int .i64 c, .int .i64 q, .agg (coR c q), undef, (R 0), .int .i64 0]) (fun _ => (.cells #[] 0 (0, 0))) (fun R _ => (.cells #[] 0 (0, 0))) (fun _ => 0) (CS W [(c, q)]) (fun _ => False) (by kernel_rfl) (by kernel_rfl) (by kernel_rfl) rfl (fun _ => rfl) (fun _ h => h.elim) (fun _ _ h => h) (by simp) (by simp) (fun R R' => ⟨fun _ => rfl, fun _ => rfl, fun _ => rfl, fun _ => rfl, fun _ => rfl, fun h => by simp only [h 0 (by decide)], fun _ => rfl, trivial⟩) (fun _ _ _ _ => rfl) cs_below ⟨EE.out, fun h => absurd h (by decide)⟩ ?ops13 ?end13
 case ops13 =>
   refine ⟨?_, ?_, ?_, ?_, ?_, ?_, ?_, trivial⟩
   · refine er_q ?vn7 ?hn7 ?kn7 ?gn7 ?_
     case hn7 => exact rfl
     case vn7 => exact (fun R => .pointer (some ⟨g0, 1, none⟩))
     case kn7 => exact (fun R => rfl)
     case gn7 => exact gd_none rfl
     intro R s w' hT hs hw ha
     go_simp
   · refine er_q ?vn8 ?hn8 ?kn8 ?gn8 ?_
     case hn8 => exact rfl
     case vn8 => exact (fun R => .int .i64 c)
     case kn8 => exact (fun R => rfl)
     case gn8 => exact gd_none rfl
     intro R s w' hT hs hw ha
     have cc := ((show Blk w' g0 _ X from P1.sameE hw (fun h => h) (by simp)).cell 1).trans (hX.x1)
     go_simp
   · refine er_q ?vn9 ?hn9 ?kn9 ?gn9 ?_
     case hn9 => exact rfl
     case vn9 => exact (fun R => .int .i64 q)
     case kn9 => exact (fun R => rfl)
     case gn9 => exact gd_none rfl
     intro R s w' hT hs hw ha
     go_simp
   · refine er_q ?vn10 ?hn10 ?kn10 ?gn10 ?_
     case hn10 => exact rfl
     case vn10 => exact (fun R => .agg (coR c q))
     case kn10 => exact (fun R => rfl)
     case gn10 => exact gd_none rfl
     intro R s w' hT hs hw ha
     generalize hA : putE _ _ _ _ _ _ _ = AA
     refine q_buildM (vs := #[(0, .int .i64 c), (1, .int .i64 q)]) rfl ?_ (b_co c q)
     subst hA
     kernel_rfl
   · refine er_ev (m := 0) ?hn11 ?gn11 ?_
     case hn11 => exact rfl
     case gn11 => exact gd_none rfl
     intro R w' hT hw
     generalize hA : putE _ _ _ _ _ _ _ = AA
     refine ev_co1 c q rfl ?_ (cs_one hT ic iq)
     subst hA
     kernel_rfl
   · refine er_q ?vn12 ?hn12 ?kn12 ?gn12 ?_
     case hn12 => exact rfl
     case vn12 => exact (fun R => (R 0))
     case kn12 => exact (fun R => rfl)
     case gn12 => exact gd_none rfl
     intro R s w' hT hs hw ha
     go_simp
   · refine er_q ?vn13 ?hn13 ?kn13 ?gn13 ?_
     case hn13 => exact rfl
     case vn13 => exact (fun R => .int .i64 0)
     case kn13 => exact (fun R => rfl)
     case gn13 => exact gd_none rfl
     intro R s w' hT hs hw ha
     go_simp
 case end13 =>
  intro sI R G w14 hI
  have hS := hI.same
  have hTT := hI.holds
  have hz0 := EE.out.size
  have hs0 : 0 < sI := (hI.stage 4 (show 4 < 7 by decide) 0 rfl).1 (List.mem_range.2 (show 4 < 7 by decide))
  obtain ⟨A1, k1, e1, O1⟩ := hTT.2 hs0
  replace P1 := P1.sameE hS (fun h => h) (by simp)
  replace EE := hide hTT.1
  clear hS hz0 hTT hI P1_lt
  generalize hF : putE _ _ _ _ _ _ _ = FF
  have hF2 : FF = { tmps := #[.agg X, .pointer (some ⟨g0, 0, none⟩), (R 0), .int .i64 0, .int .i64 q, .bool true, .agg X, .bool true, .bool false, .pointer (some ⟨g0, 1, none⟩), .int .i64 c, .bool false, .tuple #[.int .i64 q, .bool true], .agg X, .tuple #[.int .i64 q, .bool true], .int .i64 q, .bool true, .pointer (some ⟨g0, 1, none⟩), .int .i64 c, .int .i64 q, .agg (coR c q), (R 0)], defers := [] } := by subst hF; kernel_rfl
  clear hF
  subst hF2
  (try simp only [e1])
  have O1 := hide O1
  go_wp2_with fail
  go_ret2
  exact ⟨A1, k1, rfl, O1.out, EE.out⟩
set_option maxHeartbeats 3200000 in
set_option maxRecDepth 100000 in
theorem r_stepLe (X S : Array Value) (t c lo hi : Int) (hX : MeX X t c lo hi S) (v : Int) (kv : Hid (∀ w, Calls Try.prog 39 #[.agg X] w (Ret (.bool true) w))) (d1 : (c == 1073741824) = true) (W : World) : Calls Try.prog 24 #[.agg X, .int .i64 v] W (Ret (.tuple #[.agg z9m, .slice none 0 0, .int .i64 3]) W) := by
 have P2 := (Blk.new W 27 X).alloc (.cells z9m 27)
 have P4 := Blk.new (W.alloc (.cells X 27)) 27 z9m
 rw [alloc_size] at P4
 have EE := hide ((ext_alloc W (.cells X 27)).trans (ext_alloc _ (.cells z9m 27)))
 obtain ⟨W1, hW1⟩ : ∃ W1, ((W.alloc (.cells X 27)).alloc (.cells z9m 27)) = W1 := ⟨_, rfl⟩
 obtain ⟨g0, hg⟩ : ∃ g, W.heap.size = g := ⟨_, rfl⟩
 rw [hW1] at P2 P4 EE
 rw [hg] at P2 P4
 have P2_lo : W.heap.size ≤ g0 := by omega
 have P4_lo : W.heap.size ≤ g0 + 1 := by omega
 have HW := hide hW1
 have Hg := hide hg
 clear hW1 hg
 go_enter Try.func24, Try.ntmps24
 go_upto_region 1 with fail
 unfold z9m at HW
 rw [HW.out, Hg.out]
 clear HW Hg
 refine wp_region_reads ?_
 repeat (first | go_big_quiet_step (first | with_reducible exact quiet_ret (kv.out _)) | (refine wq_load (by kernel_rfl) rfl rfl (fun w hw => by obtain ⟨⟨d, os⟩, rfl⟩ := hw; exact ld_all ((P2).ext (ext_regrown W1 d os)) uMean rfl iMean hX.s) ?_) | quiet_step (first | with_reducible exact quiet_ret (kv.out _)))
 refine wpQuiet_nil ?_
 intro _ hw'
 obtain ⟨⟨dq, osq⟩, hw''⟩ := hw'
 subst hw''
 replace P2 := (P2).ext (ext_regrown W1 dq osq)
 replace P4 := (P4).ext (ext_regrown W1 dq osq)
 replace EE := hide (EE.out.trans (ext_regrown W1 dq osq))
 obtain ⟨w2, hzq1⟩ : ∃ w, grow (redrawn W1 dq) osq = w := ⟨_, rfl⟩
 rw [hzq1] at EE P2 P4 ⊢
 clear hzq1
 go_upto_region 3 with fail
 have cq3_0 := fun d os => (((P2).ext (ext_regrown w2 d os)).cell 1).trans (hX.x1)
 refine wp_region_reads ?_
 repeat (first | go_big_quiet_step (fail) | quiet_step (fail))
 refine wpQuiet_nil ?_
 intro _ hw'
 obtain ⟨⟨dq, osq⟩, hw''⟩ := hw'
 subst hw''
 replace P2 := (P2).ext (ext_regrown w2 dq osq)
 replace P4 := (P4).ext (ext_regrown w2 dq osq)
 replace EE := hide (EE.out.trans (ext_regrown w2 dq osq))
 obtain ⟨w4, hzq3⟩ : ∃ w, grow (redrawn w2 dq) osq = w := ⟨_, rfl⟩
 rw [hzq3] at EE P2 P4 ⊢
 clear hzq3 cq3_0
 go_upto_region 4 with fail
 have P2_lt := P2.lt
 have P4_lt := P4.lt
 refine wp_evs [.q, .so 0, .q, .q] [0, 0, 0, 0] (fun R => [.agg z9m, undef, .slice none 0 0, .int .i64 3]) (fun _ => (.cells #[] 0 (0, 0))) (fun R _ => (.cells z9m 27 (0, 0))) (fun _ => g0 + 1) (XE W) (fun _ => False) (by kernel_rfl) (by kernel_rfl) (by kernel_rfl) rfl (fun _ => rfl) (fun _ h => h.elim) (fun _ _ h => h) (by intro c hc; simp at hc; (try subst hc); (try simp only); omega) (by intro c c' h1 h2 _; simp at h1 h2; omega) (fun R R' => ⟨fun _ => rfl, fun _ => rfl, fun _ => rfl, fun _ => rfl, trivial⟩) (fun _ _ _ _ => rfl) xe_below EE.out ?ops8 ?end8
 case ops8 =>
   refine ⟨?_, ?_, ?_, ?_, trivial⟩
   · refine er_q ?vn5 ?hn5 ?kn5 ?gn5 ?_
     case hn5 => exact rfl
     case vn5 => exact (fun R => .agg z9m)
     case kn5 => exact (fun R => rfl)
     case gn5 => exact gd_none rfl
     intro R s w' hT hs hw ha
     generalize hA : putE _ _ _ _ _ _ _ = AA
     refine q_buildM (vs := #[]) rfl ?_ (b_me0)
     subst hA
     kernel_rfl
   · refine er_so (c := 0) (Ty := ?Tn6) (p := ?pn6) (x := ?xn6) (g0 + 1) ?fn6 ?un6 ?vn6 ?hn6 ?on6 ?kn6 ?ln6 ?gn6 ?dn6 ?en6 ?_
     case hn6 => exact rfl
     case on6 => exact rfl
     case fn6 => exact (fun R => (.cells z9m 27 (0, 0)))
     case un6 => exact (fun R => .pointer (some ⟨g0 + 1, 0, none⟩))
     case vn6 => exact (fun R => .agg z9m)
     case kn6 => exact (fun R => rfl)
     case ln6 => exact rfl
     case gn6 => exact gd_none rfl
     case dn6 =>
       intro R
       kernel_rfl
     case en6 =>
       intro R
       kernel_rfl
     intro R s ρ w hT hs hp hx hz
     refine ⟨store_rowN (g := (g0 + 1)) rfl hp hx (hz.trans P4) iMean (rfl) (rfl) (z9m_one), fun w1 hF => ext_filled hT hF P4_lo⟩
   · refine er_q ?vn7 ?hn7 ?kn7 ?gn7 ?_
     case hn7 => exact rfl
     case vn7 => exact (fun R => .slice none 0 0)
     case kn7 => exact (fun R => rfl)
     case gn7 => exact gd_none rfl
     intro R s w' hT hs hw ha
     go_simp
   · refine er_q ?vn8 ?hn8 ?kn8 ?gn8 ?_
     case hn8 => exact rfl
     case vn8 => exact (fun R => .int .i64 3)
     case kn8 => exact (fun R => rfl)
     case gn8 => exact gd_none rfl
     intro R s w' hT hs hw ha
     go_simp
 case end8 =>
  intro sI R G w9 hI
  have hS := hI.same
  have hTT := hI.holds
  have hz0 := EE.out.size
  replace P2 := P2.sameE hS (fun h => h) (by intro c hc; simp at hc; (try subst hc); (try simp only); omega)
  replace P4 : Blk w9 (g0 + 1) 27 z9m := hI.olds' 1 (List.mem_range.2 (show 1 < 4 by decide)) 0 rfl
  replace EE := hide (show Ext _ _ from hTT)
  clear hS hz0 hTT hI P2_lt P4_lt
  generalize hF : putE _ _ _ _ _ _ _ = FF
  have hF2 : FF = { tmps := #[.agg X, .int .i64 v, .pointer (some ⟨g0, 0, none⟩), undef, .pointer (some ⟨g0 + 1, 0, none⟩), .slice none 0 0, .int .i64 3, undef, undef, undef, .agg X, .bool true, .bool false, undef, .pointer (some ⟨g0, 1, none⟩), .int .i64 c, .bool true, .agg z9m, undef, undef, undef, undef, undef, undef, undef, undef, undef, undef, undef, undef, undef, undef, undef, undef, undef, undef, undef, undef, undef, undef, undef, undef, undef, undef, undef, undef, undef, undef, undef, undef, undef, undef, undef, undef, undef, undef, undef, undef, undef, undef, undef, undef], defers := [] } := by subst hF; kernel_rfl
  clear hF
  subst hF2
  go_wp2_with fail
  exact bodyPost_ret (res3 (p := 4) (u := 5) (u2 := 6) (ty := 27) rfl _ _ _ 27 z9m _ rfl P4 uMean rfl iMean) rfl ⟨by kernel_rfl, EE.out⟩
set_option maxHeartbeats 3200000 in
set_option maxRecDepth 100000 in
theorem r_stepYe (X : Array Value) (t c lo hi z : Int) (hX : MeX X t c lo hi (wCe z)) (v u : Int) (kv : Hid (∀ w, Calls Try.prog 39 #[.agg X] w (Ret (.bool true) w))) (d1 : (c == 1073741824) = false) (wr : IntKind.i64.wrap (c + 1) = c + 1) (k1 : Hid (∀ w, Calls Try.prog 13 #[.int .i64 v] w (Ret (.agg (wCe v)) w))) (k2 : Hid (∀ w, Calls Try.prog 12 #[.agg (wCe z), .agg (wCe v)] w (Ret (.tuple #[.agg (wCe u), .bool true]) w))) (d2 : decide (0 < c) = true) (km : Hid (∀ w, Calls Try.prog 39 #[.agg (meC t (c + 1) (min lo v) (max hi v) u)] w (Ret (.bool true) w))) (W : World) : Calls Try.prog 24 #[.agg X, .int .i64 v] W (Ret (.tuple #[.agg (meC t (c + 1) (min lo v) (max hi v) u), .slice none 0 0, .int .i64 0]) W) := by
 have P2 := (Blk.new W 27 X).alloc (.cells z9m 27)
 have P4 := Blk.new (W.alloc (.cells X 27)) 27 z9m
 rw [alloc_size] at P4
 have EE := hide ((ext_alloc W (.cells X 27)).trans (ext_alloc _ (.cells z9m 27)))
 obtain ⟨W1, hW1⟩ : ∃ W1, ((W.alloc (.cells X 27)).alloc (.cells z9m 27)) = W1 := ⟨_, rfl⟩
 obtain ⟨g0, hg⟩ : ∃ g, W.heap.size = g := ⟨_, rfl⟩
 rw [hW1] at P2 P4 EE
 rw [hg] at P2 P4
 have P2_lo : W.heap.size ≤ g0 := by omega
 have P4_lo : W.heap.size ≤ g0 + 1 := by omega
 have HW := hide hW1
 have Hg := hide hg
 clear hW1 hg
 go_enter Try.func24, Try.ntmps24
 go_upto_region 1 with fail
 unfold z9m at HW
 rw [HW.out, Hg.out]
 clear HW Hg
 refine wp_region_reads ?_
 repeat (first | go_big_quiet_step (first | with_reducible exact quiet_ret (kv.out _)) | (refine wq_load (by kernel_rfl) rfl rfl (fun w hw => by obtain ⟨⟨d, os⟩, rfl⟩ := hw; exact ld_all ((P2).ext (ext_regrown W1 d os)) uMean rfl iMean hX.s) ?_) | quiet_step (first | with_reducible exact quiet_ret (kv.out _)))
 refine wpQuiet_nil ?_
 intro _ hw'
 obtain ⟨⟨dq, osq⟩, hw''⟩ := hw'
 subst hw''
 replace P2 := (P2).ext (ext_regrown W1 dq osq)
 replace P4 := (P4).ext (ext_regrown W1 dq osq)
 replace EE := hide (EE.out.trans (ext_regrown W1 dq osq))
 obtain ⟨w2, hzq1⟩ : ∃ w, grow (redrawn W1 dq) osq = w := ⟨_, rfl⟩
 rw [hzq1] at EE P2 P4 ⊢
 clear hzq1
 go_upto_region 3 with fail
 have cq3_0 := fun d os => (((P2).ext (ext_regrown w2 d os)).cell 1).trans (hX.x1)
 refine wp_region_reads ?_
 repeat (first | go_big_quiet_step (fail) | quiet_step (fail))
 refine wpQuiet_nil ?_
 intro _ hw'
 obtain ⟨⟨dq, osq⟩, hw''⟩ := hw'
 subst hw''
 replace P2 := (P2).ext (ext_regrown w2 dq osq)
 replace P4 := (P4).ext (ext_regrown w2 dq osq)
 replace EE := hide (EE.out.trans (ext_regrown w2 dq osq))
 obtain ⟨w4, hzq3⟩ : ∃ w, grow (redrawn w2 dq) osq = w := ⟨_, rfl⟩
 rw [hzq3] at EE P2 P4 ⊢
 clear hzq3 cq3_0
 go_upto_region 5 with fail
 have P2_lt := P2.lt
 have P4_lt := P4.lt
 refine wp_evs [.q, .q, .q, .q, .q, .q, .q, .q, .q, .q, .q, .q, .q, .q, .al, .st 14] [0, 0, 0, 0, 0, 0, 0, 0, 0, 0, 0, 0, 0, 0, 0, 0] (fun R => [.pointer (some ⟨g0, 0, none⟩), .int .i64 t, .pointer (some ⟨g0, 1, none⟩), .int .i64 c, .int .i64 (c + 1), .pointer (some ⟨g0, 2, none⟩), .int .i64 lo, .int .i64 v, .int .i64 (min lo v), .pointer (some ⟨g0, 3, none⟩), .int .i64 hi, .int .i64 v, .int .i64 (max hi v), .agg (meC t (c + 1) (min lo v) (max hi v) 0), undef, undef]) (fun _ => (.cells z9m 27 (0, 0))) (fun R _ => (.cells (meC t (c + 1) (min lo v) (max hi v) 0) 27 (0, 0))) (fun _ => 0) (XE W) (fun _ => False) (by kernel_rfl) (by kernel_rfl) (by kernel_rfl) rfl (fun _ => rfl) (fun _ h => h.elim) (fun _ _ h => h) (by simp) (by simp) (fun R R' => ⟨fun _ => rfl, fun _ => rfl, fun _ => rfl, fun _ => rfl, fun _ => rfl, fun _ => rfl, fun _ => rfl, fun _ => rfl, fun _ => rfl, fun _ => rfl, fun _ => rfl, fun _ => rfl, fun _ => rfl, fun _ => rfl, fun _ => rfl, fun _ => rfl, trivial⟩) (fun _ _ _ _ => rfl) xe_below EE.out ?ops20 ?end20
 case ops20 =>
   refine ⟨?_, ?_, ?_, ?_, ?_, ?_, ?_, ?_, ?_, ?_, ?_, ?_, ?_, ?_, ?_, ?_, trivial⟩
   · refine er_q ?vn5 ?hn5 ?kn5 ?gn5 ?_
     case hn5 => exact rfl
     case vn5 => exact (fun R => .pointer (some ⟨g0, 0, none⟩))
     case kn5 => exact (fun R => rfl)
     case gn5 => exact gd_none rfl
     intro R s w' hT hs hw ha
     go_simp
   · refine er_q ?vn6 ?hn6 ?kn6 ?gn6 ?_
     case hn6 => exact rfl
     case vn6 => exact (fun R => .int .i64 t)
     case kn6 => exact (fun R => rfl)
     case gn6 => exact gd_none rfl
     intro R s w' hT hs hw ha
     have cc := ((show Blk w' g0 _ X from P2.sameE hw (fun h => h) (by simp)).cell 0).trans (hX.x0)
     go_simp
   · refine er_q ?vn7 ?hn7 ?kn7 ?gn7 ?_
     case hn7 => exact rfl
     case vn7 => exact (fun R => .pointer (some ⟨g0, 1, none⟩))
     case kn7 => exact (fun R => rfl)
     case gn7 => exact gd_none rfl
     intro R s w' hT hs hw ha
     go_simp
   · refine er_q ?vn8 ?hn8 ?kn8 ?gn8 ?_
     case hn8 => exact rfl
     case vn8 => exact (fun R => .int .i64 c)
     case kn8 => exact (fun R => rfl)
     case gn8 => exact gd_none rfl
     intro R s w' hT hs hw ha
     have cc := ((show Blk w' g0 _ X from P2.sameE hw (fun h => h) (by simp)).cell 1).trans (hX.x1)
     go_simp
   · refine er_q ?vn9 ?hn9 ?kn9 ?gn9 ?_
     case hn9 => exact rfl
     case vn9 => exact (fun R => .int .i64 (c + 1))
     case kn9 => exact (fun R => rfl)
     case gn9 => exact gd_none rfl
     intro R s w' hT hs hw ha
     go_simp
   · refine er_q ?vn10 ?hn10 ?kn10 ?gn10 ?_
     case hn10 => exact rfl
     case vn10 => exact (fun R => .pointer (some ⟨g0, 2, none⟩))
     case kn10 => exact (fun R => rfl)
     case gn10 => exact gd_none rfl
     intro R s w' hT hs hw ha
     go_simp
   · refine er_q ?vn11 ?hn11 ?kn11 ?gn11 ?_
     case hn11 => exact rfl
     case vn11 => exact (fun R => .int .i64 lo)
     case kn11 => exact (fun R => rfl)
     case gn11 => exact gd_none rfl
     intro R s w' hT hs hw ha
     have cc := ((show Blk w' g0 _ X from P2.sameE hw (fun h => h) (by simp)).cell 2).trans (hX.x2)
     go_simp
   · refine er_q ?vn12 ?hn12 ?kn12 ?gn12 ?_
     case hn12 => exact rfl
     case vn12 => exact (fun R => .int .i64 v)
     case kn12 => exact (fun R => rfl)
     case gn12 => exact gd_none rfl
     intro R s w' hT hs hw ha
     go_simp
   · refine er_q ?vn13 ?hn13 ?kn13 ?gn13 ?_
     case hn13 => exact rfl
     case vn13 => exact (fun R => .int .i64 (min lo v))
     case kn13 => exact (fun R => rfl)
     case gn13 => exact gd_none rfl
     intro R s w' hT hs hw ha
     go_simp
   · refine er_q ?vn14 ?hn14 ?kn14 ?gn14 ?_
     case hn14 => exact rfl
     case vn14 => exact (fun R => .pointer (some ⟨g0, 3, none⟩))
     case kn14 => exact (fun R => rfl)
     case gn14 => exact gd_none rfl
     intro R s w' hT hs hw ha
     go_simp
   · refine er_q ?vn15 ?hn15 ?kn15 ?gn15 ?_
     case hn15 => exact rfl
     case vn15 => exact (fun R => .int .i64 hi)
     case kn15 => exact (fun R => rfl)
     case gn15 => exact gd_none rfl
     intro R s w' hT hs hw ha
     have cc := ((show Blk w' g0 _ X from P2.sameE hw (fun h => h) (by simp)).cell 3).trans (hX.x3)
     go_simp
   · refine er_q ?vn16 ?hn16 ?kn16 ?gn16 ?_
     case hn16 => exact rfl
     case vn16 => exact (fun R => .int .i64 v)
     case kn16 => exact (fun R => rfl)
     case gn16 => exact gd_none rfl
     intro R s w' hT hs hw ha
     go_simp
   · refine er_q ?vn17 ?hn17 ?kn17 ?gn17 ?_
     case hn17 => exact rfl
     case vn17 => exact (fun R => .int .i64 (max hi v))
     case kn17 => exact (fun R => rfl)
     case gn17 => exact gd_none rfl
     intro R s w' hT hs hw ha
     go_simp
   · refine er_q ?vn18 ?hn18 ?kn18 ?gn18 ?_
     case hn18 => exact rfl
     case vn18 => exact (fun R => .agg (meC t (c + 1) (min lo v) (max hi v) 0))
     case kn18 => exact (fun R => rfl)
     case gn18 => exact gd_none rfl
     intro R s w' hT hs hw ha
     generalize hA : putE _ _ _ _ _ _ _ = AA
     refine q_buildM (vs := #[(0, .int .i64 t), (1, .int .i64 (c + 1)), (2, .int .i64 (min lo v)), (3, .int .i64 (max hi v))]) rfl ?_ (b_me4 t (c + 1) (min lo v) (max hi v))
     subst hA
     kernel_rfl
   · refine er_al ?zn19 ?hn19 ?kn19 ?gn19 ?_
     case zn19 => exact (.cells z9m 27 (0, 0))
     case hn19 => exact rfl
     case kn19 => exact rfl
     case gn19 => exact gd_none rfl
     intro ρ w'
     go_simp
     exact ⟨rfl, rfl⟩
   · refine er_st (j := 14) (Ty := ?Tn20) (p := ?pn20) (x := ?xn20) ?fn20 ?zn20 ?vn20 ?hn20 ?on20 ?kn20 ?ln20 ?gn20 ?en20 ?_
     case hn20 => exact rfl
     case on20 => exact rfl
     case fn20 => exact (fun R => (.cells (meC t (c + 1) (min lo v) (max hi v) 0) 27 (0, 0)))
     case zn20 => exact (.cells z9m 27 (0, 0))
     case vn20 => exact (fun R => .agg (meC t (c + 1) (min lo v) (max hi v) 0))
     case kn20 => exact (fun R => rfl)
     case ln20 => exact rfl
     case gn20 => exact gd_none rfl
     case en20 =>
       intro R
       kernel_rfl
     intro R s ρ w g hT hs hp hx hg hz
     exact ⟨store_row rfl hp hx hz iMean ((meX_of t (c + 1) (min lo v) (max hi v) 0).s) ((meX_of t (c + 1) (min lo v) (max hi v) 0).o), fun w1 hF => ext_filled hT hF (Nat.le_trans EE.out.size hg)⟩
 case end20 =>
  intro sI R G w21 hI
  have hS := hI.same
  have hTT := hI.holds
  have hz0 := EE.out.size
  replace P2 := P2.sameE hS (fun h => h) (by simp)
  replace P4 := P4.sameE hS (fun h => h) (by simp)
  have P7 : Blk w21 (G 14) 27 (meC t (c + 1) (min lo v) (max hi v) 0) := (hI.fulls 15 (List.mem_range.2 (show 15 < 16 by decide)) 14 rfl).2.2
  have hmP7 := (hI.made 14 (List.mem_range.2 (show 14 < 16 by decide)) rfl).1
  have P7_lo : W.heap.size ≤ G 14 := Nat.le_trans hz0 hmP7
  have ngP2_7 : g0 ≠ G 14 := by omega
  have ngP4_7 : g0 + 1 ≠ G 14 := by omega
  replace EE := hide (show Ext _ _ from hTT)
  clear hS hz0 hTT hI P2_lt P4_lt
  generalize hF : putE _ _ _ _ _ _ _ = FF
  have hF2 : FF = { tmps := #[.agg X, .int .i64 v, .pointer (some ⟨g0, 0, none⟩), undef, .pointer (some ⟨g0 + 1, 0, none⟩), .slice none 0 0, .int .i64 0, .pointer (some ⟨G 14, 0, none⟩), undef, undef, .agg X, .bool true, .bool false, undef, .pointer (some ⟨g0, 1, none⟩), .int .i64 c, .bool false, undef, .pointer (some ⟨g0, 0, none⟩), .int .i64 t, .pointer (some ⟨g0, 1, none⟩), .int .i64 c, .int .i64 (c + 1), .pointer (some ⟨g0, 2, none⟩), .int .i64 lo, .int .i64 v, .int .i64 (min lo v), .pointer (some ⟨g0, 3, none⟩), .int .i64 hi, .int .i64 v, .int .i64 (max hi v), .agg (meC t (c + 1) (min lo v) (max hi v) 0), undef, undef, undef, undef, undef, undef, undef, undef, undef, undef, undef, undef, undef, undef, undef, undef, undef, undef, undef, undef, undef, undef, undef, undef, undef, undef, undef, undef, undef, undef], defers := [] } := by subst hF; kernel_rfl
  clear hF
  subst hF2
  generalize G 14 = g7 at *
  go_upto_region 6 with fail
  have P2_lt := P2.lt
  have P4_lt := P4.lt
  have P7_lt := P7.lt
  refine wp_ev [.q, .q, .q, .q, .q, .q, .q, .q, .q, .so 0] [0, 0, 0, 0, 0, 0, 0, 0, 0, 0] (fun R => [.pointer (some ⟨g0, 4, none⟩), .agg (wCe z), .int .i64 v, .agg (wCe v), .tuple #[.agg (wCe u), .bool true], .tuple #[.agg (wCe u), .bool true], .agg (wCe u), .bool true, .pointer (some ⟨g7, 4, none⟩), undef]) (fun _ => (.cells #[] 0 (0, 0))) (fun R _ => (.cells (meC t (c + 1) (min lo v) (max hi v) u) 27 (0, 0))) (fun _ => g7) (XE W) (fun _ => False) (by kernel_rfl) (by kernel_rfl) (by kernel_rfl) (by kernel_rfl) rfl (fun _ => rfl) (fun _ h => h.elim) (fun _ _ h => h) (by intro c hc; simp at hc; (try subst hc); (try simp only); omega) (by intro c c' h1 h2 _; simp at h1 h2; omega) (fun R R' => ⟨fun _ => rfl, fun _ => rfl, fun _ => rfl, fun _ => rfl, fun _ => rfl, fun _ => rfl, fun _ => rfl, fun _ => rfl, fun _ => rfl, fun _ => rfl, trivial⟩) (fun _ _ _ _ => rfl) xe_below (EE.out.trans (ext_drew _)) ?ops31 ?end31
  case ops31 =>
    refine ⟨?_, ?_, ?_, ?_, ?_, ?_, ?_, ?_, ?_, ?_, trivial⟩
    · refine er_q ?vn22 ?hn22 ?kn22 ?gn22 ?_
      case hn22 => exact rfl
      case vn22 => exact (fun R => .pointer (some ⟨g0, 4, none⟩))
      case kn22 => exact (fun R => rfl)
      case gn22 => exact gd_none rfl
      intro R s w' hT hs hw ha
      go_simp
    · refine er_q ?vn23 ?hn23 ?kn23 ?gn23 ?_
      case hn23 => exact rfl
      case vn23 => exact (fun R => .agg (wCe z))
      case kn23 => exact (fun R => rfl)
      case gn23 => exact gd_none rfl
      intro R s w' hT hs hw ha
      have L := run_load_part (P2.sameE hw (fun h => h) (by intro c hc; simp at hc; (try subst hc); (try simp only); omega)) _ _ uWide rfl 4 5 iWide (by rw [hX.s]; first | decide | omega) _ (hX.x4)
      generalize hA : putE _ _ _ _ _ _ _ = AA
      refine q_load rfl ?_ L
      subst hA
      kernel_rfl
    · refine er_q ?vn24 ?hn24 ?kn24 ?gn24 ?_
      case hn24 => exact rfl
      case vn24 => exact (fun R => .int .i64 v)
      case kn24 => exact (fun R => rfl)
      case gn24 => exact gd_none rfl
      intro R s w' hT hs hw ha
      go_simp
    · refine er_q ?vn25 ?hn25 ?kn25 ?gn25 ?_
      case hn25 => exact rfl
      case vn25 => exact (fun R => .agg (wCe v))
      case kn25 => exact (fun R => rfl)
      case gn25 => exact gd_none rfl
      intro R s w' hT hs hw ha
      go_simp
      exact k1.out w'
    · refine er_q ?vn26 ?hn26 ?kn26 ?gn26 ?_
      case hn26 => exact rfl
      case vn26 => exact (fun R => .tuple #[.agg (wCe u), .bool true])
      case kn26 => exact (fun R => rfl)
      case gn26 => exact gd_none rfl
      intro R s w' hT hs hw ha
      go_simp
      exact k2.out w'
    · refine er_q ?vn27 ?hn27 ?kn27 ?gn27 ?_
      case hn27 => exact rfl
      case vn27 => exact (fun R => .tuple #[.agg (wCe u), .bool true])
      case kn27 => exact (fun R => rfl)
      case gn27 => exact gd_none rfl
      intro R s w' hT hs hw ha
      go_simp
    · refine er_q ?vn28 ?hn28 ?kn28 ?gn28 ?_
      case hn28 => exact rfl
      case vn28 => exact (fun R => .agg (wCe u))
      case kn28 => exact (fun R => rfl)
      case gn28 => exact gd_none rfl
      intro R s w' hT hs hw ha
      go_simp
    · refine er_q ?vn29 ?hn29 ?kn29 ?gn29 ?_
      case hn29 => exact rfl
      case vn29 => exact (fun R => .bool true)
      case kn29 => exact (fun R => rfl)
      case gn29 => exact gd_none rfl
      intro R s w' hT hs hw ha
      go_simp
    · refine er_q ?vn30 ?hn30 ?kn30 ?gn30 ?_
      case hn30 => exact rfl
      case vn30 => exact (fun R => .pointer (some ⟨g7, 4, none⟩))
      case kn30 => exact (fun R => rfl)
      case gn30 => exact gd_none rfl
      intro R s w' hT hs hw ha
      go_simp
    · refine er_so (c := 0) (Ty := ?Tn31) (p := ?pn31) (x := ?xn31) g7 ?fn31 ?un31 ?vn31 ?hn31 ?on31 ?kn31 ?ln31 ?gn31 ?dn31 ?en31 ?_
      case hn31 => exact rfl
      case on31 => exact rfl
      case fn31 => exact (fun R => (.cells (meC t (c + 1) (min lo v) (max hi v) u) 27 (0, 0)))
      case un31 => exact (fun R => .pointer (some ⟨g7, 4, none⟩))
      case vn31 => exact (fun R => .agg (wCe u))
      case kn31 => exact (fun R => rfl)
      case ln31 => exact rfl
      case gn31 => exact gd_none rfl
      case dn31 =>
        intro R
        kernel_rfl
      case en31 =>
        intro R
        kernel_rfl
      intro R s ρ w hT hs hp hx hz
      refine ⟨store_known (g := g7) rfl hp hx (hz.trans P7) (me_store_sum (show Blk w g7 _ (meC t (c + 1) (min lo v) (max hi v) 0) from hz.trans P7) ), fun w1 hF => ext_filled hT hF P7_lo⟩
  case end31 =>
   intro sI R G w32 hI
   have hS := hI.same
   have hTT := hI.holds
   have hz0 := EE.out.size
   replace P2 := P2.sameE hS (fun h => h) (by intro c hc; simp at hc; (try subst hc); (try simp only); omega)
   replace P4 := P4.sameE hS (fun h => h) (by intro c hc; simp at hc; (try subst hc); (try simp only); omega)
   replace P7 : Blk w32 g7 27 (meC t (c + 1) (min lo v) (max hi v) u) := hI.olds' 9 (List.mem_range.2 (show 9 < 10 by decide)) 0 rfl
   replace EE := hide (show Ext _ _ from hTT)
   clear hS hz0 hTT hI P2_lt P4_lt P7_lt
   generalize hF : putE _ _ _ _ _ _ _ = FF
   have hF2 : FF = { tmps := #[.agg X, .int .i64 v, .pointer (some ⟨g0, 0, none⟩), undef, .pointer (some ⟨g0 + 1, 0, none⟩), .slice none 0 0, .int .i64 0, .pointer (some ⟨g7, 0, none⟩), undef, undef, .agg X, .bool true, .bool false, undef, .pointer (some ⟨g0, 1, none⟩), .int .i64 c, .bool false, undef, .pointer (some ⟨g0, 0, none⟩), .int .i64 t, .pointer (some ⟨g0, 1, none⟩), .int .i64 c, .int .i64 (c + 1), .pointer (some ⟨g0, 2, none⟩), .int .i64 lo, .int .i64 v, .int .i64 (min lo v), .pointer (some ⟨g0, 3, none⟩), .int .i64 hi, .int .i64 v, .int .i64 (max hi v), .agg (meC t (c + 1) (min lo v) (max hi v) 0), .tuple #[.agg (wCe u), .bool true], .pointer (some ⟨g0, 4, none⟩), .agg (wCe z), .int .i64 v, .agg (wCe v), .tuple #[.agg (wCe u), .bool true], .agg (wCe u), .bool true, .pointer (some ⟨g7, 4, none⟩), undef, undef, undef, undef, undef, undef, undef, undef, undef, undef, undef, undef, undef, undef, undef, undef, undef, undef, undef, undef, undef], defers := [] } := by subst hF; kernel_rfl
   clear hF
   subst hF2
   go_upto_region 7 with fail
   have cq33_0 := fun d os => (((P2).ext (ext_regrown w32 d os)).cell 1).trans (hX.x1)
   refine wp_region_reads ?_
   repeat (first | go_big_quiet_step (first | with_reducible exact quiet_ret (km.out _)) | (refine wq_load (by kernel_rfl) rfl rfl (fun w hw => by obtain ⟨⟨d, os⟩, rfl⟩ := hw; exact ld_all ((P7).ext (ext_regrown w32 d os)) uMean rfl iMean (meX_of t (c + 1) (min lo v) (max hi v) u).s) ?_) | quiet_step (first | with_reducible exact quiet_ret (km.out _)))
   refine wpQuiet_nil ?_
   intro _ hw'
   obtain ⟨⟨dq, osq⟩, hw''⟩ := hw'
   subst hw''
   replace P2 := (P2).ext (ext_regrown w32 dq osq)
   replace P4 := (P4).ext (ext_regrown w32 dq osq)
   replace P7 := (P7).ext (ext_regrown w32 dq osq)
   replace EE := hide (EE.out.trans (ext_regrown w32 dq osq))
   obtain ⟨w34, hzq33⟩ : ∃ w, grow (redrawn w32 dq) osq = w := ⟨_, rfl⟩
   rw [hzq33] at EE P2 P4 P7 ⊢
   clear hzq33 cq33_0
   go_upto_region 8 with fail
   have P2_lt := P2.lt
   have P4_lt := P4.lt
   have P7_lt := P7.lt
   refine wp_evs [.q, .so 0, .q, .q] [0, 0, 0, 0] (fun R => [.agg (meC t (c + 1) (min lo v) (max hi v) u), undef, .slice none 0 0, .int .i64 0]) (fun _ => (.cells #[] 0 (0, 0))) (fun R _ => (.cells (meC t (c + 1) (min lo v) (max hi v) u) 27 (0, 0))) (fun _ => g0 + 1) (XE W) (fun _ => False) (by kernel_rfl) (by kernel_rfl) (by kernel_rfl) rfl (fun _ => rfl) (fun _ h => h.elim) (fun _ _ h => h) (by intro c hc; simp at hc; (try subst hc); (try simp only); omega) (by intro c c' h1 h2 _; simp at h1 h2; omega) (fun R R' => ⟨fun _ => rfl, fun _ => rfl, fun _ => rfl, fun _ => rfl, trivial⟩) (fun _ _ _ _ => rfl) xe_below EE.out ?ops38 ?end38
   case ops38 =>
     refine ⟨?_, ?_, ?_, ?_, trivial⟩
     · refine er_q ?vn35 ?hn35 ?kn35 ?gn35 ?_
       case hn35 => exact rfl
       case vn35 => exact (fun R => .agg (meC t (c + 1) (min lo v) (max hi v) u))
       case kn35 => exact (fun R => rfl)
       case gn35 => exact gd_none rfl
       intro R s w' hT hs hw ha
       have L := ld_all (P7.sameE hw (fun h => h) (by intro c hc; simp at hc; (try subst hc); (try simp only); omega)) uMean rfl iMean (meX_of t (c + 1) (min lo v) (max hi v) u).s
       generalize hA : putE _ _ _ _ _ _ _ = AA
       refine q_load rfl ?_ L
       subst hA
       kernel_rfl
     · refine er_so (c := 0) (Ty := ?Tn36) (p := ?pn36) (x := ?xn36) (g0 + 1) ?fn36 ?un36 ?vn36 ?hn36 ?on36 ?kn36 ?ln36 ?gn36 ?dn36 ?en36 ?_
       case hn36 => exact rfl
       case on36 => exact rfl
       case fn36 => exact (fun R => (.cells (meC t (c + 1) (min lo v) (max hi v) u) 27 (0, 0)))
       case un36 => exact (fun R => .pointer (some ⟨g0 + 1, 0, none⟩))
       case vn36 => exact (fun R => .agg (meC t (c + 1) (min lo v) (max hi v) u))
       case kn36 => exact (fun R => rfl)
       case ln36 => exact rfl
       case gn36 => exact gd_none rfl
       case dn36 =>
         intro R
         kernel_rfl
       case en36 =>
         intro R
         kernel_rfl
       intro R s ρ w hT hs hp hx hz
       refine ⟨store_rowN (g := (g0 + 1)) rfl hp hx (hz.trans P4) iMean (rfl) ((meX_of t (c + 1) (min lo v) (max hi v) u).s) ((meX_of t (c + 1) (min lo v) (max hi v) u).o), fun w1 hF => ext_filled hT hF P4_lo⟩
     · refine er_q ?vn37 ?hn37 ?kn37 ?gn37 ?_
       case hn37 => exact rfl
       case vn37 => exact (fun R => .slice none 0 0)
       case kn37 => exact (fun R => rfl)
       case gn37 => exact gd_none rfl
       intro R s w' hT hs hw ha
       go_simp
     · refine er_q ?vn38 ?hn38 ?kn38 ?gn38 ?_
       case hn38 => exact rfl
       case vn38 => exact (fun R => .int .i64 0)
       case kn38 => exact (fun R => rfl)
       case gn38 => exact gd_none rfl
       intro R s w' hT hs hw ha
       go_simp
   case end38 =>
    intro sI R G w39 hI
    have hS := hI.same
    have hTT := hI.holds
    have hz0 := EE.out.size
    replace P2 := P2.sameE hS (fun h => h) (by intro c hc; simp at hc; (try subst hc); (try simp only); omega)
    replace P7 := P7.sameE hS (fun h => h) (by intro c hc; simp at hc; (try subst hc); (try simp only); omega)
    replace P4 : Blk w39 (g0 + 1) 27 (meC t (c + 1) (min lo v) (max hi v) u) := hI.olds' 1 (List.mem_range.2 (show 1 < 4 by decide)) 0 rfl
    replace EE := hide (show Ext _ _ from hTT)
    clear hS hz0 hTT hI P2_lt P4_lt P7_lt
    generalize hF : putE _ _ _ _ _ _ _ = FF
    have hF2 : FF = { tmps := #[.agg X, .int .i64 v, .pointer (some ⟨g0, 0, none⟩), undef, .pointer (some ⟨g0 + 1, 0, none⟩), .slice none 0 0, .int .i64 0, .pointer (some ⟨g7, 0, none⟩), undef, undef, .agg X, .bool true, .bool false, undef, .pointer (some ⟨g0, 1, none⟩), .int .i64 c, .bool false, undef, .pointer (some ⟨g0, 0, none⟩), .int .i64 t, .pointer (some ⟨g0, 1, none⟩), .int .i64 c, .int .i64 (c + 1), .pointer (some ⟨g0, 2, none⟩), .int .i64 lo, .int .i64 v, .int .i64 (min lo v), .pointer (some ⟨g0, 3, none⟩), .int .i64 hi, .int .i64 v, .int .i64 (max hi v), .agg (meC t (c + 1) (min lo v) (max hi v) 0), .tuple #[.agg (wCe u), .bool true], .pointer (some ⟨g0, 4, none⟩), .agg (wCe z), .int .i64 v, .agg (wCe v), .tuple #[.agg (wCe u), .bool true], .agg (wCe u), .bool true, .pointer (some ⟨g7, 4, none⟩), .pointer (some ⟨g0, 1, none⟩), .int .i64 c, .bool true, .bool true, .agg (meC t (c + 1) (min lo v) (max hi v) u), .bool true, .bool true, .agg (meC t (c + 1) (min lo v) (max hi v) u), undef, undef, undef, undef, undef, undef, undef, undef, undef, undef, undef, undef, undef], defers := [] } := by subst hF; kernel_rfl
    clear hF
    subst hF2
    go_wp2_with fail
    exact bodyPost_ret (res3 (p := 4) (u := 5) (u2 := 6) (ty := 27) rfl _ _ _ 27 (meC t (c + 1) (min lo v) (max hi v) u) _ rfl P4 uMean rfl iMean) rfl ⟨by kernel_rfl, EE.out⟩
set_option maxHeartbeats 3200000 in
set_option maxRecDepth 100000 in
theorem r_stepNe (X : Array Value) (t c lo hi z : Int) (hX : MeX X t c lo hi (wCe z)) (v u : Int) (kv : Hid (∀ w, Calls Try.prog 39 #[.agg X] w (Ret (.bool true) w))) (d1 : (c == 1073741824) = false) (wr : IntKind.i64.wrap (c + 1) = c + 1) (k1 : Hid (∀ w, Calls Try.prog 13 #[.int .i64 v] w (Ret (.agg (wCe v)) w))) (k2 : Hid (∀ w, Calls Try.prog 12 #[.agg (wCe z), .agg (wCe v)] w (Ret (.tuple #[.agg (wCe u), .bool true]) w))) (d2 : decide (0 < c) = true) (km : Hid (∀ w, Calls Try.prog 39 #[.agg (meC t (c + 1) (min lo v) (max hi v) u)] w (Ret (.bool false) w))) (l : List (Int × Int)) (kn : Hid (∀ w, Calls Try.prog 37 #[.agg X] w (CoFin l 0 w))) (W : World) : Calls Try.prog 24 #[.agg X, .int .i64 v] W (CoTrip (meC t 1 v v v) l 0 W) := by
 have P2 := (Blk.new W 27 X).alloc (.cells z9m 27)
 have P4 := Blk.new (W.alloc (.cells X 27)) 27 z9m
 rw [alloc_size] at P4
 have EE := hide ((ext_alloc W (.cells X 27)).trans (ext_alloc _ (.cells z9m 27)))
 obtain ⟨W1, hW1⟩ : ∃ W1, ((W.alloc (.cells X 27)).alloc (.cells z9m 27)) = W1 := ⟨_, rfl⟩
 obtain ⟨g0, hg⟩ : ∃ g, W.heap.size = g := ⟨_, rfl⟩
 rw [hW1] at P2 P4 EE
 rw [hg] at P2 P4
 have P2_lo : W.heap.size ≤ g0 := by omega
 have P4_lo : W.heap.size ≤ g0 + 1 := by omega
 have HW := hide hW1
 have Hg := hide hg
 clear hW1 hg
 go_enter Try.func24, Try.ntmps24
 go_upto_region 1 with fail
 unfold z9m at HW
 rw [HW.out, Hg.out]
 clear HW Hg
 refine wp_region_reads ?_
 repeat (first | go_big_quiet_step (first | with_reducible exact quiet_ret (kv.out _)) | (refine wq_load (by kernel_rfl) rfl rfl (fun w hw => by obtain ⟨⟨d, os⟩, rfl⟩ := hw; exact ld_all ((P2).ext (ext_regrown W1 d os)) uMean rfl iMean hX.s) ?_) | quiet_step (first | with_reducible exact quiet_ret (kv.out _)))
 refine wpQuiet_nil ?_
 intro _ hw'
 obtain ⟨⟨dq, osq⟩, hw''⟩ := hw'
 subst hw''
 replace P2 := (P2).ext (ext_regrown W1 dq osq)
 replace P4 := (P4).ext (ext_regrown W1 dq osq)
 replace EE := hide (EE.out.trans (ext_regrown W1 dq osq))
 obtain ⟨w2, hzq1⟩ : ∃ w, grow (redrawn W1 dq) osq = w := ⟨_, rfl⟩
 rw [hzq1] at EE P2 P4 ⊢
 clear hzq1
 go_upto_region 3 with fail
 have cq3_0 := fun d os => (((P2).ext (ext_regrown w2 d os)).cell 1).trans (hX.x1)
 refine wp_region_reads ?_
 repeat (first | go_big_quiet_step (fail) | quiet_step (fail))
 refine wpQuiet_nil ?_
 intro _ hw'
 obtain ⟨⟨dq, osq⟩, hw''⟩ := hw'
 subst hw''
 replace P2 := (P2).ext (ext_regrown w2 dq osq)
 replace P4 := (P4).ext (ext_regrown w2 dq osq)
 replace EE := hide (EE.out.trans (ext_regrown w2 dq osq))
 obtain ⟨w4, hzq3⟩ : ∃ w, grow (redrawn w2 dq) osq = w := ⟨_, rfl⟩
 rw [hzq3] at EE P2 P4 ⊢
 clear hzq3 cq3_0
 go_upto_region 5 with fail
 have P2_lt := P2.lt
 have P4_lt := P4.lt
 refine wp_evs [.q, .q, .q, .q, .q, .q, .q, .q, .q, .q, .q, .q, .q, .q, .al, .st 14] [0, 0, 0, 0, 0, 0, 0, 0, 0, 0, 0, 0, 0, 0, 0, 0] (fun R => [.pointer (some ⟨g0, 0, none⟩), .int .i64 t, .pointer (some ⟨g0, 1, none⟩), .int .i64 c, .int .i64 (c + 1), .pointer (some ⟨g0, 2, none⟩), .int .i64 lo, .int .i64 v, .int .i64 (min lo v), .pointer (some ⟨g0, 3, none⟩), .int .i64 hi, .int .i64 v, .int .i64 (max hi v), .agg (meC t (c + 1) (min lo v) (max hi v) 0), undef, undef]) (fun _ => (.cells z9m 27 (0, 0))) (fun R _ => (.cells (meC t (c + 1) (min lo v) (max hi v) 0) 27 (0, 0))) (fun _ => 0) (XE W) (fun _ => False) (by kernel_rfl) (by kernel_rfl) (by kernel_rfl) rfl (fun _ => rfl) (fun _ h => h.elim) (fun _ _ h => h) (by simp) (by simp) (fun R R' => ⟨fun _ => rfl, fun _ => rfl, fun _ => rfl, fun _ => rfl, fun _ => rfl, fun _ => rfl, fun _ => rfl, fun _ => rfl, fun _ => rfl, fun _ => rfl, fun _ => rfl, fun _ => rfl, fun _ => rfl, fun _ => rfl, fun _ => rfl, fun _ => rfl, trivial⟩) (fun _ _ _ _ => rfl) xe_below EE.out ?ops20 ?end20
 case ops20 =>
   refine ⟨?_, ?_, ?_, ?_, ?_, ?_, ?_, ?_, ?_, ?_, ?_, ?_, ?_, ?_, ?_, ?_, trivial⟩
   · refine er_q ?vn5 ?hn5 ?kn5 ?gn5 ?_
     case hn5 => exact rfl
     case vn5 => exact (fun R => .pointer (some ⟨g0, 0, none⟩))
     case kn5 => exact (fun R => rfl)
     case gn5 => exact gd_none rfl
     intro R s w' hT hs hw ha
     go_simp
   · refine er_q ?vn6 ?hn6 ?kn6 ?gn6 ?_
     case hn6 => exact rfl
     case vn6 => exact (fun R => .int .i64 t)
     case kn6 => exact (fun R => rfl)
     case gn6 => exact gd_none rfl
     intro R s w' hT hs hw ha
     have cc := ((show Blk w' g0 _ X from P2.sameE hw (fun h => h) (by simp)).cell 0).trans (hX.x0)
     go_simp
   · refine er_q ?vn7 ?hn7 ?kn7 ?gn7 ?_
     case hn7 => exact rfl
     case vn7 => exact (fun R => .pointer (some ⟨g0, 1, none⟩))
     case kn7 => exact (fun R => rfl)
     case gn7 => exact gd_none rfl
     intro R s w' hT hs hw ha
     go_simp
   · refine er_q ?vn8 ?hn8 ?kn8 ?gn8 ?_
     case hn8 => exact rfl
     case vn8 => exact (fun R => .int .i64 c)
     case kn8 => exact (fun R => rfl)
     case gn8 => exact gd_none rfl
     intro R s w' hT hs hw ha
     have cc := ((show Blk w' g0 _ X from P2.sameE hw (fun h => h) (by simp)).cell 1).trans (hX.x1)
     go_simp
   · refine er_q ?vn9 ?hn9 ?kn9 ?gn9 ?_
     case hn9 => exact rfl
     case vn9 => exact (fun R => .int .i64 (c + 1))
     case kn9 => exact (fun R => rfl)
     case gn9 => exact gd_none rfl
     intro R s w' hT hs hw ha
     go_simp
   · refine er_q ?vn10 ?hn10 ?kn10 ?gn10 ?_
     case hn10 => exact rfl
     case vn10 => exact (fun R => .pointer (some ⟨g0, 2, none⟩))
     case kn10 => exact (fun R => rfl)
     case gn10 => exact gd_none rfl
     intro R s w' hT hs hw ha
     go_simp
   · refine er_q ?vn11 ?hn11 ?kn11 ?gn11 ?_
     case hn11 => exact rfl
     case vn11 => exact (fun R => .int .i64 lo)
     case kn11 => exact (fun R => rfl)
     case gn11 => exact gd_none rfl
     intro R s w' hT hs hw ha
     have cc := ((show Blk w' g0 _ X from P2.sameE hw (fun h => h) (by simp)).cell 2).trans (hX.x2)
     go_simp
   · refine er_q ?vn12 ?hn12 ?kn12 ?gn12 ?_
     case hn12 => exact rfl
     case vn12 => exact (fun R => .int .i64 v)
     case kn12 => exact (fun R => rfl)
     case gn12 => exact gd_none rfl
     intro R s w' hT hs hw ha
     go_simp
   · refine er_q ?vn13 ?hn13 ?kn13 ?gn13 ?_
     case hn13 => exact rfl
     case vn13 => exact (fun R => .int .i64 (min lo v))
     case kn13 => exact (fun R => rfl)
     case gn13 => exact gd_none rfl
     intro R s w' hT hs hw ha
     go_simp
   · refine er_q ?vn14 ?hn14 ?kn14 ?gn14 ?_
     case hn14 => exact rfl
     case vn14 => exact (fun R => .pointer (some ⟨g0, 3, none⟩))
     case kn14 => exact (fun R => rfl)
     case gn14 => exact gd_none rfl
     intro R s w' hT hs hw ha
     go_simp
   · refine er_q ?vn15 ?hn15 ?kn15 ?gn15 ?_
     case hn15 => exact rfl
     case vn15 => exact (fun R => .int .i64 hi)
     case kn15 => exact (fun R => rfl)
     case gn15 => exact gd_none rfl
     intro R s w' hT hs hw ha
     have cc := ((show Blk w' g0 _ X from P2.sameE hw (fun h => h) (by simp)).cell 3).trans (hX.x3)
     go_simp
   · refine er_q ?vn16 ?hn16 ?kn16 ?gn16 ?_
     case hn16 => exact rfl
     case vn16 => exact (fun R => .int .i64 v)
     case kn16 => exact (fun R => rfl)
     case gn16 => exact gd_none rfl
     intro R s w' hT hs hw ha
     go_simp
   · refine er_q ?vn17 ?hn17 ?kn17 ?gn17 ?_
     case hn17 => exact rfl
     case vn17 => exact (fun R => .int .i64 (max hi v))
     case kn17 => exact (fun R => rfl)
     case gn17 => exact gd_none rfl
     intro R s w' hT hs hw ha
     go_simp
   · refine er_q ?vn18 ?hn18 ?kn18 ?gn18 ?_
     case hn18 => exact rfl
     case vn18 => exact (fun R => .agg (meC t (c + 1) (min lo v) (max hi v) 0))
     case kn18 => exact (fun R => rfl)
     case gn18 => exact gd_none rfl
     intro R s w' hT hs hw ha
     generalize hA : putE _ _ _ _ _ _ _ = AA
     refine q_buildM (vs := #[(0, .int .i64 t), (1, .int .i64 (c + 1)), (2, .int .i64 (min lo v)), (3, .int .i64 (max hi v))]) rfl ?_ (b_me4 t (c + 1) (min lo v) (max hi v))
     subst hA
     kernel_rfl
   · refine er_al ?zn19 ?hn19 ?kn19 ?gn19 ?_
     case zn19 => exact (.cells z9m 27 (0, 0))
     case hn19 => exact rfl
     case kn19 => exact rfl
     case gn19 => exact gd_none rfl
     intro ρ w'
     go_simp
     exact ⟨rfl, rfl⟩
   · refine er_st (j := 14) (Ty := ?Tn20) (p := ?pn20) (x := ?xn20) ?fn20 ?zn20 ?vn20 ?hn20 ?on20 ?kn20 ?ln20 ?gn20 ?en20 ?_
     case hn20 => exact rfl
     case on20 => exact rfl
     case fn20 => exact (fun R => (.cells (meC t (c + 1) (min lo v) (max hi v) 0) 27 (0, 0)))
     case zn20 => exact (.cells z9m 27 (0, 0))
     case vn20 => exact (fun R => .agg (meC t (c + 1) (min lo v) (max hi v) 0))
     case kn20 => exact (fun R => rfl)
     case ln20 => exact rfl
     case gn20 => exact gd_none rfl
     case en20 =>
       intro R
       kernel_rfl
     intro R s ρ w g hT hs hp hx hg hz
     exact ⟨store_row rfl hp hx hz iMean ((meX_of t (c + 1) (min lo v) (max hi v) 0).s) ((meX_of t (c + 1) (min lo v) (max hi v) 0).o), fun w1 hF => ext_filled hT hF (Nat.le_trans EE.out.size hg)⟩
 case end20 =>
  intro sI R G w21 hI
  have hS := hI.same
  have hTT := hI.holds
  have hz0 := EE.out.size
  replace P2 := P2.sameE hS (fun h => h) (by simp)
  replace P4 := P4.sameE hS (fun h => h) (by simp)
  have P7 : Blk w21 (G 14) 27 (meC t (c + 1) (min lo v) (max hi v) 0) := (hI.fulls 15 (List.mem_range.2 (show 15 < 16 by decide)) 14 rfl).2.2
  have hmP7 := (hI.made 14 (List.mem_range.2 (show 14 < 16 by decide)) rfl).1
  have P7_lo : W.heap.size ≤ G 14 := Nat.le_trans hz0 hmP7
  have ngP2_7 : g0 ≠ G 14 := by omega
  have ngP4_7 : g0 + 1 ≠ G 14 := by omega
  replace EE := hide (show Ext _ _ from hTT)
  clear hS hz0 hTT hI P2_lt P4_lt
  generalize hF : putE _ _ _ _ _ _ _ = FF
  have hF2 : FF = { tmps := #[.agg X, .int .i64 v, .pointer (some ⟨g0, 0, none⟩), undef, .pointer (some ⟨g0 + 1, 0, none⟩), .slice none 0 0, .int .i64 0, .pointer (some ⟨G 14, 0, none⟩), undef, undef, .agg X, .bool true, .bool false, undef, .pointer (some ⟨g0, 1, none⟩), .int .i64 c, .bool false, undef, .pointer (some ⟨g0, 0, none⟩), .int .i64 t, .pointer (some ⟨g0, 1, none⟩), .int .i64 c, .int .i64 (c + 1), .pointer (some ⟨g0, 2, none⟩), .int .i64 lo, .int .i64 v, .int .i64 (min lo v), .pointer (some ⟨g0, 3, none⟩), .int .i64 hi, .int .i64 v, .int .i64 (max hi v), .agg (meC t (c + 1) (min lo v) (max hi v) 0), undef, undef, undef, undef, undef, undef, undef, undef, undef, undef, undef, undef, undef, undef, undef, undef, undef, undef, undef, undef, undef, undef, undef, undef, undef, undef, undef, undef, undef, undef], defers := [] } := by subst hF; kernel_rfl
  clear hF
  subst hF2
  generalize G 14 = g7 at *
  go_upto_region 6 with fail
  have P2_lt := P2.lt
  have P4_lt := P4.lt
  have P7_lt := P7.lt
  refine wp_ev [.q, .q, .q, .q, .q, .q, .q, .q, .q, .so 0] [0, 0, 0, 0, 0, 0, 0, 0, 0, 0] (fun R => [.pointer (some ⟨g0, 4, none⟩), .agg (wCe z), .int .i64 v, .agg (wCe v), .tuple #[.agg (wCe u), .bool true], .tuple #[.agg (wCe u), .bool true], .agg (wCe u), .bool true, .pointer (some ⟨g7, 4, none⟩), undef]) (fun _ => (.cells #[] 0 (0, 0))) (fun R _ => (.cells (meC t (c + 1) (min lo v) (max hi v) u) 27 (0, 0))) (fun _ => g7) (XE W) (fun _ => False) (by kernel_rfl) (by kernel_rfl) (by kernel_rfl) (by kernel_rfl) rfl (fun _ => rfl) (fun _ h => h.elim) (fun _ _ h => h) (by intro c hc; simp at hc; (try subst hc); (try simp only); omega) (by intro c c' h1 h2 _; simp at h1 h2; omega) (fun R R' => ⟨fun _ => rfl, fun _ => rfl, fun _ => rfl, fun _ => rfl, fun _ => rfl, fun _ => rfl, fun _ => rfl, fun _ => rfl, fun _ => rfl, fun _ => rfl, trivial⟩) (fun _ _ _ _ => rfl) xe_below (EE.out.trans (ext_drew _)) ?ops31 ?end31
  case ops31 =>
    refine ⟨?_, ?_, ?_, ?_, ?_, ?_, ?_, ?_, ?_, ?_, trivial⟩
    · refine er_q ?vn22 ?hn22 ?kn22 ?gn22 ?_
      case hn22 => exact rfl
      case vn22 => exact (fun R => .pointer (some ⟨g0, 4, none⟩))
      case kn22 => exact (fun R => rfl)
      case gn22 => exact gd_none rfl
      intro R s w' hT hs hw ha
      go_simp
    · refine er_q ?vn23 ?hn23 ?kn23 ?gn23 ?_
      case hn23 => exact rfl
      case vn23 => exact (fun R => .agg (wCe z))
      case kn23 => exact (fun R => rfl)
      case gn23 => exact gd_none rfl
      intro R s w' hT hs hw ha
      have L := run_load_part (P2.sameE hw (fun h => h) (by intro c hc; simp at hc; (try subst hc); (try simp only); omega)) _ _ uWide rfl 4 5 iWide (by rw [hX.s]; first | decide | omega) _ (hX.x4)
      generalize hA : putE _ _ _ _ _ _ _ = AA
      refine q_load rfl ?_ L
      subst hA
      kernel_rfl
    · refine er_q ?vn24 ?hn24 ?kn24 ?gn24 ?_
      case hn24 => exact rfl
      case vn24 => exact (fun R => .int .i64 v)
      case kn24 => exact (fun R => rfl)
      case gn24 => exact gd_none rfl
      intro R s w' hT hs hw ha
      go_simp
    · refine er_q ?vn25 ?hn25 ?kn25 ?gn25 ?_
      case hn25 => exact rfl
      case vn25 => exact (fun R => .agg (wCe v))
      case kn25 => exact (fun R => rfl)
      case gn25 => exact gd_none rfl
      intro R s w' hT hs hw ha
      go_simp
      exact k1.out w'
    · refine er_q ?vn26 ?hn26 ?kn26 ?gn26 ?_
      case hn26 => exact rfl
      case vn26 => exact (fun R => .tuple #[.agg (wCe u), .bool true])
      case kn26 => exact (fun R => rfl)
      case gn26 => exact gd_none rfl
      intro R s w' hT hs hw ha
      go_simp
      exact k2.out w'
    · refine er_q ?vn27 ?hn27 ?kn27 ?gn27 ?_
      case hn27 => exact rfl
      case vn27 => exact (fun R => .tuple #[.agg (wCe u), .bool true])
      case kn27 => exact (fun R => rfl)
      case gn27 => exact gd_none rfl
      intro R s w' hT hs hw ha
      go_simp
    · refine er_q ?vn28 ?hn28 ?kn28 ?gn28 ?_
      case hn28 => exact rfl
      case vn28 => exact (fun R => .agg (wCe u))
      case kn28 => exact (fun R => rfl)
      case gn28 => exact gd_none rfl
      intro R s w' hT hs hw ha
      go_simp
    · refine er_q ?vn29 ?hn29 ?kn29 ?gn29 ?_
      case hn29 => exact rfl
      case vn29 => exact (fun R => .bool true)
      case kn29 => exact (fun R => rfl)
      case gn29 => exact gd_none rfl
      intro R s w' hT hs hw ha
      go_simp
    · refine er_q ?vn30 ?hn30 ?kn30 ?gn30 ?_
      case hn30 => exact rfl
      case vn30 => exact (fun R => .pointer (some ⟨g7, 4, none⟩))
      case kn30 => exact (fun R => rfl)
      case gn30 => exact gd_none rfl
      intro R s w' hT hs hw ha
      go_simp
    · refine er_so (c := 0) (Ty := ?Tn31) (p := ?pn31) (x := ?xn31) g7 ?fn31 ?un31 ?vn31 ?hn31 ?on31 ?kn31 ?ln31 ?gn31 ?dn31 ?en31 ?_
      case hn31 => exact rfl
      case on31 => exact rfl
      case fn31 => exact (fun R => (.cells (meC t (c + 1) (min lo v) (max hi v) u) 27 (0, 0)))
      case un31 => exact (fun R => .pointer (some ⟨g7, 4, none⟩))
      case vn31 => exact (fun R => .agg (wCe u))
      case kn31 => exact (fun R => rfl)
      case ln31 => exact rfl
      case gn31 => exact gd_none rfl
      case dn31 =>
        intro R
        kernel_rfl
      case en31 =>
        intro R
        kernel_rfl
      intro R s ρ w hT hs hp hx hz
      refine ⟨store_known (g := g7) rfl hp hx (hz.trans P7) (me_store_sum (show Blk w g7 _ (meC t (c + 1) (min lo v) (max hi v) 0) from hz.trans P7) ), fun w1 hF => ext_filled hT hF P7_lo⟩
  case end31 =>
   intro sI R G w32 hI
   have hS := hI.same
   have hTT := hI.holds
   have hz0 := EE.out.size
   replace P2 := P2.sameE hS (fun h => h) (by intro c hc; simp at hc; (try subst hc); (try simp only); omega)
   replace P4 := P4.sameE hS (fun h => h) (by intro c hc; simp at hc; (try subst hc); (try simp only); omega)
   replace P7 : Blk w32 g7 27 (meC t (c + 1) (min lo v) (max hi v) u) := hI.olds' 9 (List.mem_range.2 (show 9 < 10 by decide)) 0 rfl
   replace EE := hide (show Ext _ _ from hTT)
   clear hS hz0 hTT hI P2_lt P4_lt P7_lt
   generalize hF : putE _ _ _ _ _ _ _ = FF
   have hF2 : FF = { tmps := #[.agg X, .int .i64 v, .pointer (some ⟨g0, 0, none⟩), undef, .pointer (some ⟨g0 + 1, 0, none⟩), .slice none 0 0, .int .i64 0, .pointer (some ⟨g7, 0, none⟩), undef, undef, .agg X, .bool true, .bool false, undef, .pointer (some ⟨g0, 1, none⟩), .int .i64 c, .bool false, undef, .pointer (some ⟨g0, 0, none⟩), .int .i64 t, .pointer (some ⟨g0, 1, none⟩), .int .i64 c, .int .i64 (c + 1), .pointer (some ⟨g0, 2, none⟩), .int .i64 lo, .int .i64 v, .int .i64 (min lo v), .pointer (some ⟨g0, 3, none⟩), .int .i64 hi, .int .i64 v, .int .i64 (max hi v), .agg (meC t (c + 1) (min lo v) (max hi v) 0), .tuple #[.agg (wCe u), .bool true], .pointer (some ⟨g0, 4, none⟩), .agg (wCe z), .int .i64 v, .agg (wCe v), .tuple #[.agg (wCe u), .bool true], .agg (wCe u), .bool true, .pointer (some ⟨g7, 4, none⟩), undef, undef, undef, undef, undef, undef, undef, undef, undef, undef, undef, undef, undef, undef, undef, undef, undef, undef, undef, undef, undef], defers := [] } := by subst hF; kernel_rfl
   clear hF
   subst hF2
   go_upto_region 7 with fail
   have cq33_0 := fun d os => (((P2).ext (ext_regrown w32 d os)).cell 1).trans (hX.x1)
   refine wp_region_reads ?_
   repeat (first | go_big_quiet_step (first | with_reducible exact quiet_ret (km.out _)) | (refine wq_load (by kernel_rfl) rfl rfl (fun w hw => by obtain ⟨⟨d, os⟩, rfl⟩ := hw; exact ld_all ((P7).ext (ext_regrown w32 d os)) uMean rfl iMean (meX_of t (c + 1) (min lo v) (max hi v) u).s) ?_) | quiet_step (first | with_reducible exact quiet_ret (km.out _)))
   refine wpQuiet_nil ?_
   intro _ hw'
   obtain ⟨⟨dq, osq⟩, hw''⟩ := hw'
   subst hw''
   replace P2 := (P2).ext (ext_regrown w32 dq osq)
   replace P4 := (P4).ext (ext_regrown w32 dq osq)
   replace P7 := (P7).ext (ext_regrown w32 dq osq)
   replace EE := hide (EE.out.trans (ext_regrown w32 dq osq))
   obtain ⟨w34, hzq33⟩ : ∃ w, grow (redrawn w32 dq) osq = w := ⟨_, rfl⟩
   rw [hzq33] at EE P2 P4 P7 ⊢
   clear hzq33 cq33_0
   go_upto_region 9 with fail
   have ld := ld_all P2 uMean rfl iMean hX.s
   have P4x := P4.lt
   have E0 := EE
   go_upto_region 10 with (first
     | (refine wl_load (by kernel_rfl) rfl rfl ld ?_)
     | (go_at_call 37; (with_reducible refine (kn.out _).mono ?_); rintro e2 w8 ⟨A8, c8, rfl, h8, E8⟩; replace P2 := P2.ext E8; replace P4 := P4.ext E8; replace EE := hide (EE.out.trans E8); have H8 := hide h8; have Q4 := P4x; have hz8 := E0.out.size; clear h8 ld))
   have E9 := EE
   clear EE
   have EE : Hid (Upd (g0 + 1) w8 w8) := Upd.refl _ _
   have P2_lt := P2.lt
   have P4_lt := P4.lt
   refine wp_ev [.q, .q, .q, .q, .q, .q, .q, .q, .so 0, .q, .q] [0, 0, 0, 0, 0, 0, 0, 0, 0, 0, 0] (fun R => [.pointer (some ⟨g0, 0, none⟩), .int .i64 t, .int .i64 v, .int .i64 v, .int .i64 v, .agg (wCe v), .agg (meC t 1 v v v), .slice A8 l.length c8, undef, .slice A8 l.length c8, .int .i64 0]) (fun _ => (.cells #[] 0 (0, 0))) (fun R _ => (.cells (meC t 1 v v v) 27 (0, 0))) (fun _ => g0 + 1) (UE (g0 + 1) w8) (fun _ => False) (by kernel_rfl) (by kernel_rfl) (by kernel_rfl) (by kernel_rfl) rfl (fun _ => rfl) (fun _ h => h.elim) (fun _ _ h => h) (by intro c hc; simp at hc; (try subst hc); (try simp only); omega) (by intro c c' h1 h2 _; simp at h1 h2; omega) (fun R R' => ⟨fun _ => rfl, fun _ => rfl, fun _ => rfl, fun _ => rfl, fun _ => rfl, fun _ => rfl, fun _ => rfl, fun _ => rfl, fun _ => rfl, fun _ => rfl, fun _ => rfl, trivial⟩) (fun _ _ _ _ => rfl) ue_below EE.out.drew ?ops45 ?end45
   case ops45 =>
     refine ⟨?_, ?_, ?_, ?_, ?_, ?_, ?_, ?_, ?_, ?_, ?_, trivial⟩
     · refine er_q ?vn35 ?hn35 ?kn35 ?gn35 ?_
       case hn35 => exact rfl
       case vn35 => exact (fun R => .pointer (some ⟨g0, 0, none⟩))
       case kn35 => exact (fun R => rfl)
       case gn35 => exact gd_none rfl
       intro R s w' hT hs hw ha
       go_simp
     · refine er_q ?vn36 ?hn36 ?kn36 ?gn36 ?_
       case hn36 => exact rfl
       case vn36 => exact (fun R => .int .i64 t)
       case kn36 => exact (fun R => rfl)
       case gn36 => exact gd_none rfl
       intro R s w' hT hs hw ha
       have cc := ((show Blk w' g0 _ X from P2.sameE hw (fun h => h) (by intro c hc; simp at hc; (try subst hc); (try simp only); omega)).cell 0).trans (hX.x0)
       go_simp
     · refine er_q ?vn37 ?hn37 ?kn37 ?gn37 ?_
       case hn37 => exact rfl
       case vn37 => exact (fun R => .int .i64 v)
       case kn37 => exact (fun R => rfl)
       case gn37 => exact gd_none rfl
       intro R s w' hT hs hw ha
       go_simp
     · refine er_q ?vn38 ?hn38 ?kn38 ?gn38 ?_
       case hn38 => exact rfl
       case vn38 => exact (fun R => .int .i64 v)
       case kn38 => exact (fun R => rfl)
       case gn38 => exact gd_none rfl
       intro R s w' hT hs hw ha
       go_simp
     · refine er_q ?vn39 ?hn39 ?kn39 ?gn39 ?_
       case hn39 => exact rfl
       case vn39 => exact (fun R => .int .i64 v)
       case kn39 => exact (fun R => rfl)
       case gn39 => exact gd_none rfl
       intro R s w' hT hs hw ha
       go_simp
     · refine er_q ?vn40 ?hn40 ?kn40 ?gn40 ?_
       case hn40 => exact rfl
       case vn40 => exact (fun R => .agg (wCe v))
       case kn40 => exact (fun R => rfl)
       case gn40 => exact gd_none rfl
       intro R s w' hT hs hw ha
       go_simp
       exact k1.out w'
     · refine er_q ?vn41 ?hn41 ?kn41 ?gn41 ?_
       case hn41 => exact rfl
       case vn41 => exact (fun R => .agg (meC t 1 v v v))
       case kn41 => exact (fun R => rfl)
       case gn41 => exact gd_none rfl
       intro R s w' hT hs hw ha
       generalize hA : putE _ _ _ _ _ _ _ = AA
       refine q_buildM (vs := #[(0, .int .i64 t), (1, .int .i64 1), (2, .int .i64 v), (3, .int .i64 v), (4, .agg (wCe v))]) rfl ?_ (b_me5w t 1 v v v)
       subst hA
       kernel_rfl
     · refine er_q ?vn42 ?hn42 ?kn42 ?gn42 ?_
       case hn42 => exact rfl
       case vn42 => exact (fun R => .slice A8 l.length c8)
       case kn42 => exact (fun R => rfl)
       case gn42 => exact gd_none rfl
       intro R s w' hT hs hw ha
       go_simp
     · refine er_so (c := 0) (Ty := ?Tn43) (p := ?pn43) (x := ?xn43) (g0 + 1) ?fn43 ?un43 ?vn43 ?hn43 ?on43 ?kn43 ?ln43 ?gn43 ?dn43 ?en43 ?_
       case hn43 => exact rfl
       case on43 => exact rfl
       case fn43 => exact (fun R => (.cells (meC t 1 v v v) 27 (0, 0)))
       case un43 => exact (fun R => .pointer (some ⟨g0 + 1, 0, none⟩))
       case vn43 => exact (fun R => .agg (meC t 1 v v v))
       case kn43 => exact (fun R => rfl)
       case ln43 => exact rfl
       case gn43 => exact gd_none rfl
       case dn43 =>
         intro R
         kernel_rfl
       case en43 =>
         intro R
         kernel_rfl
       intro R s ρ w hT hs hp hx hz
       refine ⟨store_rowN (g := (g0 + 1)) rfl hp hx (hz.trans P4) iMean (rfl) ((meX_of t 1 v v v).s) ((meX_of t 1 v v v).o), fun w1 hF => ue_self hT hF⟩
     · refine er_q ?vn44 ?hn44 ?kn44 ?gn44 ?_
       case hn44 => exact rfl
       case vn44 => exact (fun R => .slice A8 l.length c8)
       case kn44 => exact (fun R => rfl)
       case gn44 => exact gd_none rfl
       intro R s w' hT hs hw ha
       go_simp
     · refine er_q ?vn45 ?hn45 ?kn45 ?gn45 ?_
       case hn45 => exact rfl
       case vn45 => exact (fun R => .int .i64 0)
       case kn45 => exact (fun R => rfl)
       case gn45 => exact gd_none rfl
       intro R s w' hT hs hw ha
       go_simp
   case end45 =>
    intro sI R G w46 hI
    have hS := hI.same
    have hTT := hI.holds
    have hz0 := EE.out.2.2.2.1
    replace P2 := P2.sameE hS (fun h => h) (by intro c hc; simp at hc; (try subst hc); (try simp only); omega)
    replace P4 : Blk w46 (g0 + 1) 27 (meC t 1 v v v) := hI.olds' 8 (List.mem_range.2 (show 8 < 11 by decide)) 0 rfl
    replace EE := hide (show Upd (g0 + 1) _ _ from hTT)
    clear hS hz0 hTT hI P2_lt P4_lt
    generalize hF : putE _ _ _ _ _ _ _ = FF
    have hF2 : FF = { tmps := #[.agg X, .int .i64 v, .pointer (some ⟨g0, 0, none⟩), undef, .pointer (some ⟨g0 + 1, 0, none⟩), .slice A8 l.length c8, .int .i64 0, .pointer (some ⟨g7, 0, none⟩), .slice A8 l.length c8, .int .i64 0, .agg X, .bool true, .bool false, undef, .pointer (some ⟨g0, 1, none⟩), .int .i64 c, .bool false, undef, .pointer (some ⟨g0, 0, none⟩), .int .i64 t, .pointer (some ⟨g0, 1, none⟩), .int .i64 c, .int .i64 (c + 1), .pointer (some ⟨g0, 2, none⟩), .int .i64 lo, .int .i64 v, .int .i64 (min lo v), .pointer (some ⟨g0, 3, none⟩), .int .i64 hi, .int .i64 v, .int .i64 (max hi v), .agg (meC t (c + 1) (min lo v) (max hi v) 0), .tuple #[.agg (wCe u), .bool true], .pointer (some ⟨g0, 4, none⟩), .agg (wCe z), .int .i64 v, .agg (wCe v), .tuple #[.agg (wCe u), .bool true], .agg (wCe u), .bool true, .pointer (some ⟨g7, 4, none⟩), .pointer (some ⟨g0, 1, none⟩), .int .i64 c, .bool true, .bool true, .agg (meC t (c + 1) (min lo v) (max hi v) u), .bool false, .bool false, undef, .tuple #[.slice A8 l.length c8, .int .i64 0], .agg X, .tuple #[.slice A8 l.length c8, .int .i64 0], .slice A8 l.length c8, .int .i64 0, .pointer (some ⟨g0, 0, none⟩), .int .i64 t, .int .i64 v, .int .i64 v, .int .i64 v, .agg (wCe v), .agg (meC t 1 v v v), .slice A8 l.length c8], defers := [] } := by subst hF; kernel_rfl
    clear hF
    subst hF2
    go_wp2_with fail
    exact bodyPost_ret (res3 (p := 4) (u := 5) (u2 := 6) (ty := 27) rfl _ _ _ 27 (meC t 1 v v v) _ rfl P4 uMean rfl iMean) rfl ⟨A8, c8, by kernel_rfl, (H8.out.upd EE.out Q4).less hz8, Upd.ext EE.out E9.out P4_lo⟩
set_option maxHeartbeats 3200000 in
set_option maxRecDepth 100000 in
theorem r_step0e (X : Array Value) (t c lo hi z : Int) (hX : MeX X t c lo hi (wCe z)) (v u : Int) (kv : Hid (∀ w, Calls Try.prog 39 #[.agg X] w (Ret (.bool true) w))) (d1 : (c == 1073741824) = false) (wr : IntKind.i64.wrap (c + 1) = c + 1) (k1 : Hid (∀ w, Calls Try.prog 13 #[.int .i64 v] w (Ret (.agg (wCe v)) w))) (k2 : Hid (∀ w, Calls Try.prog 12 #[.agg (wCe z), .agg (wCe v)] w (Ret (.tuple #[.agg (wCe u), .bool true]) w))) (d2 : decide (0 < c) = false) (l : List (Int × Int)) (kn : Hid (∀ w, Calls Try.prog 37 #[.agg X] w (CoFin l 0 w))) (W : World) : Calls Try.prog 24 #[.agg X, .int .i64 v] W (CoTrip (meC t 1 v v v) l 0 W) := by
 have P2 := (Blk.new W 27 X).alloc (.cells z9m 27)
 have P4 := Blk.new (W.alloc (.cells X 27)) 27 z9m
 rw [alloc_size] at P4
 have EE := hide ((ext_alloc W (.cells X 27)).trans (ext_alloc _ (.cells z9m 27)))
 obtain ⟨W1, hW1⟩ : ∃ W1, ((W.alloc (.cells X 27)).alloc (.cells z9m 27)) = W1 := ⟨_, rfl⟩
 obtain ⟨g0, hg⟩ : ∃ g, W.heap.size = g := ⟨_, rfl⟩
 rw [hW1] at P2 P4 EE
 rw [hg] at P2 P4
 have P2_lo : W.heap.size ≤ g0 := by omega
 have P4_lo : W.heap.size ≤ g0 + 1 := by omega
 have HW := hide hW1
 have Hg := hide hg
 clear hW1 hg
 go_enter Try.func24, Try.ntmps24
 go_upto_region 1 with fail
 unfold z9m at HW
 rw [HW.out, Hg.out]
 clear HW Hg
 refine wp_region_reads ?_
 repeat (first | go_big_quiet_step (first | with_reducible exact quiet_ret (kv.out _)) | (refine wq_load (by kernel_rfl) rfl rfl (fun w hw => by obtain ⟨⟨d, os⟩, rfl⟩ := hw; exact ld_all ((P2).ext (ext_regrown W1 d os)) uMean rfl iMean hX.s) ?_) | quiet_step (first | with_reducible exact quiet_ret (kv.out _)))
 refine wpQuiet_nil ?_
 intro _ hw'
 obtain ⟨⟨dq, osq⟩, hw''⟩ := hw'
 subst hw''
 replace P2 := (P2).ext (ext_regrown W1 dq osq)
 replace P4 := (P4).ext (ext_regrown W1 dq osq)
 replace EE := hide (EE.out.trans (ext_regrown W1 dq osq))
 obtain ⟨w2, hzq1⟩ : ∃ w, grow (redrawn W1 dq) osq = w := ⟨_, rfl⟩
 rw [hzq1] at EE P2 P4 ⊢
 clear hzq1
 go_upto_region 3 with fail
 have cq3_0 := fun d os => (((P2).ext (ext_regrown w2 d os)).cell 1).trans (hX.x1)
 refine wp_region_reads ?_
 repeat (first | go_big_quiet_step (fail) | quiet_step (fail))
 refine wpQuiet_nil ?_
 intro _ hw'
 obtain ⟨⟨dq, osq⟩, hw''⟩ := hw'
 subst hw''
 replace P2 := (P2).ext (ext_regrown w2 dq osq)
 replace P4 := (P4).ext (ext_regrown w2 dq osq)
 replace EE := hide (EE.out.trans (ext_regrown w2 dq osq))
 obtain ⟨w4, hzq3⟩ : ∃ w, grow (redrawn w2 dq) osq = w := ⟨_, rfl⟩
 rw [hzq3] at EE P2 P4 ⊢
 clear hzq3 cq3_0
 go_upto_region 5 with fail
 have P2_lt := P2.lt
 have P4_lt := P4.lt
 refine wp_evs [.q, .q, .q, .q, .q, .q, .q, .q, .q, .q, .q, .q, .q, .q, .al, .st 14] [0, 0, 0, 0, 0, 0, 0, 0, 0, 0, 0, 0, 0, 0, 0, 0] (fun R => [.pointer (some ⟨g0, 0, none⟩), .int .i64 t, .pointer (some ⟨g0, 1, none⟩), .int .i64 c, .int .i64 (c + 1), .pointer (some ⟨g0, 2, none⟩), .int .i64 lo, .int .i64 v, .int .i64 (min lo v), .pointer (some ⟨g0, 3, none⟩), .int .i64 hi, .int .i64 v, .int .i64 (max hi v), .agg (meC t (c + 1) (min lo v) (max hi v) 0), undef, undef]) (fun _ => (.cells z9m 27 (0, 0))) (fun R _ => (.cells (meC t (c + 1) (min lo v) (max hi v) 0) 27 (0, 0))) (fun _ => 0) (XE W) (fun _ => False) (by kernel_rfl) (by kernel_rfl) (by kernel_rfl) rfl (fun _ => rfl) (fun _ h => h.elim) (fun _ _ h => h) (by simp) (by simp) (fun R R' => ⟨fun _ => rfl, fun _ => rfl, fun _ => rfl, fun _ => rfl, fun _ => rfl, fun _ => rfl, fun _ => rfl, fun _ => rfl, fun _ => rfl, fun _ => rfl, fun _ => rfl, fun _ => rfl, fun _ => rfl, fun _ => rfl, fun _ => rfl, fun _ => rfl, trivial⟩) (fun _ _ _ _ => rfl) xe_below EE.out ?ops20 ?end20
 case ops20 =>
   refine ⟨?_, ?_, ?_, ?_, ?_, ?_, ?_, ?_, ?_, ?_, ?_, ?_, ?_, ?_, ?_, ?_, trivial⟩
   · refine er_q ?vn5 ?hn5 ?kn5 ?gn5 ?_
     case hn5 => exact rfl
     case vn5 => exact (fun R => .pointer (some ⟨g0, 0, none⟩))
     case kn5 => exact (fun R => rfl)
     case gn5 => exact gd_none rfl
     intro R s w' hT hs hw ha
     go_simp
   · refine er_q ?vn6 ?hn6 ?kn6 ?gn6 ?_
     case hn6 => exact rfl
     case vn6 => exact (fun R => .int .i64 t)
     case kn6 => exact (fun R => rfl)
     case gn6 => exact gd_none rfl
     intro R s w' hT hs hw ha
     have cc := ((show Blk w' g0 _ X from P2.sameE hw (fun h => h) (by simp)).cell 0).trans (hX.x0)
     go_simp
   · refine er_q ?vn7 ?hn7 ?kn7 ?gn7 ?_
     case hn7 => exact rfl
     case vn7 => exact (fun R => .pointer (some ⟨g0, 1, none⟩))
     case kn7 => exact (fun R => rfl)
     case gn7 => exact gd_none rfl
     intro R s w' hT hs hw ha
     go_simp
   · refine er_q ?vn8 ?hn8 ?kn8 ?gn8 ?_
     case hn8 => exact rfl
     case vn8 => exact (fun R => .int .i64 c)
     case kn8 => exact (fun R => rfl)
     case gn8 => exact gd_none rfl
     intro R s w' hT hs hw ha
     have cc := ((show Blk w' g0 _ X from P2.sameE hw (fun h => h) (by simp)).cell 1).trans (hX.x1)
     go_simp
   · refine er_q ?vn9 ?hn9 ?kn9 ?gn9 ?_
     case hn9 => exact rfl
     case vn9 => exact (fun R => .int .i64 (c + 1))
     case kn9 => exact (fun R => rfl)
     case gn9 => exact gd_none rfl
     intro R s w' hT hs hw ha
     go_simp
   · refine er_q ?vn10 ?hn10 ?kn10 ?gn10 ?_
     case hn10 => exact rfl
     case vn10 => exact (fun R => .pointer (some ⟨g0, 2, none⟩))
     case kn10 => exact (fun R => rfl)
     case gn10 => exact gd_none rfl
     intro R s w' hT hs hw ha
     go_simp
   · refine er_q ?vn11 ?hn11 ?kn11 ?gn11 ?_
     case hn11 => exact rfl
     case vn11 => exact (fun R => .int .i64 lo)
     case kn11 => exact (fun R => rfl)
     case gn11 => exact gd_none rfl
     intro R s w' hT hs hw ha
     have cc := ((show Blk w' g0 _ X from P2.sameE hw (fun h => h) (by simp)).cell 2).trans (hX.x2)
     go_simp
   · refine er_q ?vn12 ?hn12 ?kn12 ?gn12 ?_
     case hn12 => exact rfl
     case vn12 => exact (fun R => .int .i64 v)
     case kn12 => exact (fun R => rfl)
     case gn12 => exact gd_none rfl
     intro R s w' hT hs hw ha
     go_simp
   · refine er_q ?vn13 ?hn13 ?kn13 ?gn13 ?_
     case hn13 => exact rfl
     case vn13 => exact (fun R => .int .i64 (min lo v))
     case kn13 => exact (fun R => rfl)
     case gn13 => exact gd_none rfl
     intro R s w' hT hs hw ha
     go_simp
   · refine er_q ?vn14 ?hn14 ?kn14 ?gn14 ?_
     case hn14 => exact rfl
     case vn14 => exact (fun R => .pointer (some ⟨g0, 3, none⟩))
     case kn14 => exact (fun R => rfl)
     case gn14 => exact gd_none rfl
     intro R s w' hT hs hw ha
     go_simp
   · refine er_q ?vn15 ?hn15 ?kn15 ?gn15 ?_
     case hn15 => exact rfl
     case vn15 => exact (fun R => .int .i64 hi)
     case kn15 => exact (fun R => rfl)
     case gn15 => exact gd_none rfl
     intro R s w' hT hs hw ha
     have cc := ((show Blk w' g0 _ X from P2.sameE hw (fun h => h) (by simp)).cell 3).trans (hX.x3)
     go_simp
   · refine er_q ?vn16 ?hn16 ?kn16 ?gn16 ?_
     case hn16 => exact rfl
     case vn16 => exact (fun R => .int .i64 v)
     case kn16 => exact (fun R => rfl)
     case gn16 => exact gd_none rfl
     intro R s w' hT hs hw ha
     go_simp
   · refine er_q ?vn17 ?hn17 ?kn17 ?gn17 ?_
     case hn17 => exact rfl
     case vn17 => exact (fun R => .int .i64 (max hi v))
     case kn17 => exact (fun R => rfl)
     case gn17 => exact gd_none rfl
     intro R s w' hT hs hw ha
     go_simp
   · refine er_q ?vn18 ?hn18 ?kn18 ?gn18 ?_
     case hn18 => exact rfl
     case vn18 => exact (fun R => .agg (meC t (c + 1) (min lo v) (max hi v) 0))
     case kn18 => exact (fun R => rfl)
     case gn18 => exact gd_none rfl
     intro R s w' hT hs hw ha
     generalize hA : putE _ _ _ _ _ _ _ = AA
     refine q_buildM (vs := #[(0, .int .i64 t), (1, .int .i64 (c + 1)), (2, .int .i64 (min lo v)), (3, .int .i64 (max hi v))]) rfl ?_ (b_me4 t (c + 1) (min lo v) (max hi v))
     subst hA
     kernel_rfl
   · refine er_al ?zn19 ?hn19 ?kn19 ?gn19 ?_
     case zn19 => exact (.cells z9m 27 (0, 0))
     case hn19 => exact rfl
     case kn19 => exact rfl
     case gn19 => exact gd_none rfl
     intro ρ w'
     go_simp
     exact ⟨rfl, rfl⟩
   · refine er_st (j := 14) (Ty := ?Tn20) (p := ?pn20) (x := ?xn20) ?fn20 ?zn20 ?vn20 ?hn20 ?on20 ?kn20 ?ln20 ?gn20 ?en20 ?_
     case hn20 => exact rfl
     case on20 => exact rfl
     case fn20 => exact (fun R => (.cells (meC t (c + 1) (min lo v) (max hi v) 0) 27 (0, 0)))
     case zn20 => exact (.cells z9m 27 (0, 0))
     case vn20 => exact (fun R => .agg (meC t (c + 1) (min lo v) (max hi v) 0))
     case kn20 => exact (fun R => rfl)
     case ln20 => exact rfl
     case gn20 => exact gd_none rfl
     case en20 =>
       intro R
       kernel_rfl
     intro R s ρ w g hT hs hp hx hg hz
     exact ⟨store_row rfl hp hx hz iMean ((meX_of t (c + 1) (min lo v) (max hi v) 0).s) ((meX_of t (c + 1) (min lo v) (max hi v) 0).o), fun w1 hF => ext_filled hT hF (Nat.le_trans EE.out.size hg)⟩
 case end20 =>
  intro sI R G w21 hI
  have hS := hI.same
  have hTT := hI.holds
  have hz0 := EE.out.size
  replace P2 := P2.sameE hS (fun h => h) (by simp)
  replace P4 := P4.sameE hS (fun h => h) (by simp)
  have P7 : Blk w21 (G 14) 27 (meC t (c + 1) (min lo v) (max hi v) 0) := (hI.fulls 15 (List.mem_range.2 (show 15 < 16 by decide)) 14 rfl).2.2
  have hmP7 := (hI.made 14 (List.mem_range.2 (show 14 < 16 by decide)) rfl).1
  have P7_lo : W.heap.size ≤ G 14 := Nat.le_trans hz0 hmP7
  have ngP2_7 : g0 ≠ G 14 := by omega
  have ngP4_7 : g0 + 1 ≠ G 14 := by omega
  replace EE := hide (show Ext _ _ from hTT)
  clear hS hz0 hTT hI P2_lt P4_lt
  generalize hF : putE _ _ _ _ _ _ _ = FF
  have hF2 : FF = { tmps := #[.agg X, .int .i64 v, .pointer (some ⟨g0, 0, none⟩), undef, .pointer (some ⟨g0 + 1, 0, none⟩), .slice none 0 0, .int .i64 0, .pointer (some ⟨G 14, 0, none⟩), undef, undef, .agg X, .bool true, .bool false, undef, .pointer (some ⟨g0, 1, none⟩), .int .i64 c, .bool false, undef, .pointer (some ⟨g0, 0, none⟩), .int .i64 t, .pointer (some ⟨g0, 1, none⟩), .int .i64 c, .int .i64 (c + 1), .pointer (some ⟨g0, 2, none⟩), .int .i64 lo, .int .i64 v, .int .i64 (min lo v), .pointer (some ⟨g0, 3, none⟩), .int .i64 hi, .int .i64 v, .int .i64 (max hi v), .agg (meC t (c + 1) (min lo v) (max hi v) 0), undef, undef, undef, undef, undef, undef, undef, undef, undef, undef, undef, undef, undef, undef, undef, undef, undef, undef, undef, undef, undef, undef, undef, undef, undef, undef, undef, undef, undef, undef], defers := [] } := by subst hF; kernel_rfl
  clear hF
  subst hF2
  generalize G 14 = g7 at *
  go_upto_region 6 with fail
  have P2_lt := P2.lt
  have P4_lt := P4.lt
  have P7_lt := P7.lt
  refine wp_ev [.q, .q, .q, .q, .q, .q, .q, .q, .q, .so 0] [0, 0, 0, 0, 0, 0, 0, 0, 0, 0] (fun R => [.pointer (some ⟨g0, 4, none⟩), .agg (wCe z), .int .i64 v, .agg (wCe v), .tuple #[.agg (wCe u), .bool true], .tuple #[.agg (wCe u), .bool true], .agg (wCe u), .bool true, .pointer (some ⟨g7, 4, none⟩), undef]) (fun _ => (.cells #[] 0 (0, 0))) (fun R _ => (.cells (meC t (c + 1) (min lo v) (max hi v) u) 27 (0, 0))) (fun _ => g7) (XE W) (fun _ => False) (by kernel_rfl) (by kernel_rfl) (by kernel_rfl) (by kernel_rfl) rfl (fun _ => rfl) (fun _ h => h.elim) (fun _ _ h => h) (by intro c hc; simp at hc; (try subst hc); (try simp only); omega) (by intro c c' h1 h2 _; simp at h1 h2; omega) (fun R R' => ⟨fun _ => rfl, fun _ => rfl, fun _ => rfl, fun _ => rfl, fun _ => rfl, fun _ => rfl, fun _ => rfl, fun _ => rfl, fun _ => rfl, fun _ => rfl, trivial⟩) (fun _ _ _ _ => rfl) xe_below (EE.out.trans (ext_drew _)) ?ops31 ?end31
  case ops31 =>
    refine ⟨?_, ?_, ?_, ?_, ?_, ?_, ?_, ?_, ?_, ?_, trivial⟩
    · refine er_q ?vn22 ?hn22 ?kn22 ?gn22 ?_
      case hn22 => exact rfl
      case vn22 => exact (fun R => .pointer (some ⟨g0, 4, none⟩))
      case kn22 => exact (fun R => rfl)
      case gn22 => exact gd_none rfl
      intro R s w' hT hs hw ha
      go_simp
    · refine er_q ?vn23 ?hn23 ?kn23 ?gn23 ?_
      case hn23 => exact rfl
      case vn23 => exact (fun R => .agg (wCe z))
      case kn23 => exact (fun R => rfl)
      case gn23 => exact gd_none rfl
      intro R s w' hT hs hw ha
      have L := run_load_part (P2.sameE hw (fun h => h) (by intro c hc; simp at hc; (try subst hc); (try simp only); omega)) _ _ uWide rfl 4 5 iWide (by rw [hX.s]; first | decide | omega) _ (hX.x4)
      generalize hA : putE _ _ _ _ _ _ _ = AA
      refine q_load rfl ?_ L
      subst hA
      kernel_rfl
    · refine er_q ?vn24 ?hn24 ?kn24 ?gn24 ?_
      case hn24 => exact rfl
      case vn24 => exact (fun R => .int .i64 v)
      case kn24 => exact (fun R => rfl)
      case gn24 => exact gd_none rfl
      intro R s w' hT hs hw ha
      go_simp
    · refine er_q ?vn25 ?hn25 ?kn25 ?gn25 ?_
      case hn25 => exact rfl
      case vn25 => exact (fun R => .agg (wCe v))
      case kn25 => exact (fun R => rfl)
      case gn25 => exact gd_none rfl
      intro R s w' hT hs hw ha
      go_simp
      exact k1.out w'
    · refine er_q ?vn26 ?hn26 ?kn26 ?gn26 ?_
      case hn26 => exact rfl
      case vn26 => exact (fun R => .tuple #[.agg (wCe u), .bool true])
      case kn26 => exact (fun R => rfl)
      case gn26 => exact gd_none rfl
      intro R s w' hT hs hw ha
      go_simp
      exact k2.out w'
    · refine er_q ?vn27 ?hn27 ?kn27 ?gn27 ?_
      case hn27 => exact rfl
      case vn27 => exact (fun R => .tuple #[.agg (wCe u), .bool true])
      case kn27 => exact (fun R => rfl)
      case gn27 => exact gd_none rfl
      intro R s w' hT hs hw ha
      go_simp
    · refine er_q ?vn28 ?hn28 ?kn28 ?gn28 ?_
      case hn28 => exact rfl
      case vn28 => exact (fun R => .agg (wCe u))
      case kn28 => exact (fun R => rfl)
      case gn28 => exact gd_none rfl
      intro R s w' hT hs hw ha
      go_simp
    · refine er_q ?vn29 ?hn29 ?kn29 ?gn29 ?_
      case hn29 => exact rfl
      case vn29 => exact (fun R => .bool true)
      case kn29 => exact (fun R => rfl)
      case gn29 => exact gd_none rfl
      intro R s w' hT hs hw ha
      go_simp
    · refine er_q ?vn30 ?hn30 ?kn30 ?gn30 ?_
      case hn30 => exact rfl
      case vn30 => exact (fun R => .pointer (some ⟨g7, 4, none⟩))
      case kn30 => exact (fun R => rfl)
      case gn30 => exact gd_none rfl
      intro R s w' hT hs hw ha
      go_simp
    · refine er_so (c := 0) (Ty := ?Tn31) (p := ?pn31) (x := ?xn31) g7 ?fn31 ?un31 ?vn31 ?hn31 ?on31 ?kn31 ?ln31 ?gn31 ?dn31 ?en31 ?_
      case hn31 => exact rfl
      case on31 => exact rfl
      case fn31 => exact (fun R => (.cells (meC t (c + 1) (min lo v) (max hi v) u) 27 (0, 0)))
      case un31 => exact (fun R => .pointer (some ⟨g7, 4, none⟩))
      case vn31 => exact (fun R => .agg (wCe u))
      case kn31 => exact (fun R => rfl)
      case ln31 => exact rfl
      case gn31 => exact gd_none rfl
      case dn31 =>
        intro R
        kernel_rfl
      case en31 =>
        intro R
        kernel_rfl
      intro R s ρ w hT hs hp hx hz
      refine ⟨store_known (g := g7) rfl hp hx (hz.trans P7) (me_store_sum (show Blk w g7 _ (meC t (c + 1) (min lo v) (max hi v) 0) from hz.trans P7) ), fun w1 hF => ext_filled hT hF P7_lo⟩
  case end31 =>
   intro sI R G w32 hI
   have hS := hI.same
   have hTT := hI.holds
   have hz0 := EE.out.size
   replace P2 := P2.sameE hS (fun h => h) (by intro c hc; simp at hc; (try subst hc); (try simp only); omega)
   replace P4 := P4.sameE hS (fun h => h) (by intro c hc; simp at hc; (try subst hc); (try simp only); omega)
   replace P7 : Blk w32 g7 27 (meC t (c + 1) (min lo v) (max hi v) u) := hI.olds' 9 (List.mem_range.2 (show 9 < 10 by decide)) 0 rfl
   replace EE := hide (show Ext _ _ from hTT)
   clear hS hz0 hTT hI P2_lt P4_lt P7_lt
   generalize hF : putE _ _ _ _ _ _ _ = FF
   have hF2 : FF = { tmps := #[.agg X, .int .i64 v, .pointer (some ⟨g0, 0, none⟩), undef, .pointer (some ⟨g0 + 1, 0, none⟩), .slice none 0 0, .int .i64 0, .pointer (some ⟨g7, 0, none⟩), undef, undef, .agg X, .bool true, .bool false, undef, .pointer (some ⟨g0, 1, none⟩), .int .i64 c, .bool false, undef, .pointer (some ⟨g0, 0, none⟩), .int .i64 t, .pointer (some ⟨g0, 1, none⟩), .int .i64 c, .int .i64 (c + 1), .pointer (some ⟨g0, 2, none⟩), .int .i64 lo, .int .i64 v, .int .i64 (min lo v), .pointer (some ⟨g0, 3, none⟩), .int .i64 hi, .int .i64 v, .int .i64 (max hi v), .agg (meC t (c + 1) (min lo v) (max hi v) 0), .tuple #[.agg (wCe u), .bool true], .pointer (some ⟨g0, 4, none⟩), .agg (wCe z), .int .i64 v, .agg (wCe v), .tuple #[.agg (wCe u), .bool true], .agg (wCe u), .bool true, .pointer (some ⟨g7, 4, none⟩), undef, undef, undef, undef, undef, undef, undef, undef, undef, undef, undef, undef, undef, undef, undef, undef, undef, undef, undef, undef, undef], defers := [] } := by subst hF; kernel_rfl
   clear hF
   subst hF2
   go_upto_region 7 with fail
   have cq33_0 := fun d os => (((P2).ext (ext_regrown w32 d os)).cell 1).trans (hX.x1)
   refine wp_region_reads ?_
   repeat (first | go_big_quiet_step (fail) | quiet_step (fail))
   refine wpQuiet_nil ?_
   intro _ hw'
   obtain ⟨⟨dq, osq⟩, hw''⟩ := hw'
   subst hw''
   replace P2 := (P2).ext (ext_regrown w32 dq osq)
   replace P4 := (P4).ext (ext_regrown w32 dq osq)
   replace P7 := (P7).ext (ext_regrown w32 dq osq)
   replace EE := hide (EE.out.trans (ext_regrown w32 dq osq))
   obtain ⟨w34, hzq33⟩ : ∃ w, grow (redrawn w32 dq) osq = w := ⟨_, rfl⟩
   rw [hzq33] at EE P2 P4 P7 ⊢
   clear hzq33 cq33_0
   go_upto_region 9 with fail
   have ld := ld_all P2 uMean rfl iMean hX.s
   have P4x := P4.lt
   have E0 := EE
   go_upto_region 10 with (first
     | (refine wl_load (by kernel_rfl) rfl rfl ld ?_)
     | (go_at_call 37; (with_reducible refine (kn.out _).mono ?_); rintro e2 w8 ⟨A8, c8, rfl, h8, E8⟩; replace P2 := P2.ext E8; replace P4 := P4.ext E8; replace EE := hide (EE.out.trans E8); have H8 := hide h8; have Q4 := P4x; have hz8 := E0.out.size; clear h8 ld))
   have E9 := EE
   clear EE
   have EE : Hid (Upd (g0 + 1) w8 w8) := Upd.refl _ _
   have P2_lt := P2.lt
   have P4_lt := P4.lt
   refine wp_ev [.q, .q, .q, .q, .q, .q, .q, .q, .so 0, .q, .q] [0, 0, 0, 0, 0, 0, 0, 0, 0, 0, 0] (fun R => [.pointer (some ⟨g0, 0, none⟩), .int .i64 t, .int .i64 v, .int .i64 v, .int .i64 v, .agg (wCe v), .agg (meC t 1 v v v), .slice A8 l.length c8, undef, .slice A8 l.length c8, .int .i64 0]) (fun _ => (.cells #[] 0 (0, 0))) (fun R _ => (.cells (meC t 1 v v v) 27 (0, 0))) (fun _ => g0 + 1) (UE (g0 + 1) w8) (fun _ => False) (by kernel_rfl) (by kernel_rfl) (by kernel_rfl) (by kernel_rfl) rfl (fun _ => rfl) (fun _ h => h.elim) (fun _ _ h => h) (by intro c hc; simp at hc; (try subst hc); (try simp only); omega) (by intro c c' h1 h2 _; simp at h1 h2; omega) (fun R R' => ⟨fun _ => rfl, fun _ => rfl, fun _ => rfl, fun _ => rfl, fun _ => rfl, fun _ => rfl, fun _ => rfl, fun _ => rfl, fun _ => rfl, fun _ => rfl, fun _ => rfl, trivial⟩) (fun _ _ _ _ => rfl) ue_below EE.out.drew ?ops45 ?end45
   case ops45 =>
     refine ⟨?_, ?_, ?_, ?_, ?_, ?_, ?_, ?_, ?_, ?_, ?_, trivial⟩
     · refine er_q ?vn35 ?hn35 ?kn35 ?gn35 ?_
       case hn35 => exact rfl
       case vn35 => exact (fun R => .pointer (some ⟨g0, 0, none⟩))
       case kn35 => exact (fun R => rfl)
       case gn35 => exact gd_none rfl
       intro R s w' hT hs hw ha
       go_simp
     · refine er_q ?vn36 ?hn36 ?kn36 ?gn36 ?_
       case hn36 => exact rfl
       case vn36 => exact (fun R => .int .i64 t)
       case kn36 => exact (fun R => rfl)
       case gn36 => exact gd_none rfl
       intro R s w' hT hs hw ha
       have cc := ((show Blk w' g0 _ X from P2.sameE hw (fun h => h) (by intro c hc; simp at hc; (try subst hc); (try simp only); omega)).cell 0).trans (hX.x0)
       go_simp
     · refine er_q ?vn37 ?hn37 ?kn37 ?gn37 ?_
       case hn37 => exact rfl
       case vn37 => exact (fun R => .int .i64 v)
       case kn37 => exact (fun R => rfl)
       case gn37 => exact gd_none rfl
       intro R s w' hT hs hw ha
       go_simp
     · refine er_q ?vn38 ?hn38 ?kn38 ?gn38 ?_
       case hn38 => exact rfl
       case vn38 => exact (fun R => .int .i64 v)
       case kn38 => exact (fun R => rfl)
       case gn38 => exact gd_none rfl
       intro R s w' hT hs hw ha
       go_simp
     · refine er_q ?vn39 ?hn39 ?kn39 ?gn39 ?_
       case hn39 => exact rfl
       case vn39 => exact (fun R => .int .i64 v)
       case kn39 => exact (fun R => rfl)
       case gn39 => exact gd_none rfl
       intro R s w' hT hs hw ha
       go_simp
     · refine er_q ?vn40 ?hn40 ?kn40 ?gn40 ?_
       case hn40 => exact rfl
       case vn40 => exact (fun R => .agg (wCe v))
       case kn40 => exact (fun R => rfl)
       case gn40 => exact gd_none rfl
       intro R s w' hT hs hw ha
       go_simp
       exact k1.out w'
     · refine er_q ?vn41 ?hn41 ?kn41 ?gn41 ?_
       case hn41 => exact rfl
       case vn41 => exact (fun R => .agg (meC t 1 v v v))
       case kn41 => exact (fun R => rfl)
       case gn41 => exact gd_none rfl
       intro R s w' hT hs hw ha
       generalize hA : putE _ _ _ _ _ _ _ = AA
       refine q_buildM (vs := #[(0, .int .i64 t), (1, .int .i64 1), (2, .int .i64 v), (3, .int .i64 v), (4, .agg (wCe v))]) rfl ?_ (b_me5w t 1 v v v)
       subst hA
       kernel_rfl
     · refine er_q ?vn42 ?hn42 ?kn42 ?gn42 ?_
       case hn42 => exact rfl
       case vn42 => exact (fun R => .slice A8 l.length c8)
       case kn42 => exact (fun R => rfl)
       case gn42 => exact gd_none rfl
       intro R s w' hT hs hw ha
       go_simp
     · refine er_so (c := 0) (Ty := ?Tn43) (p := ?pn43) (x := ?xn43) (g0 + 1) ?fn43 ?un43 ?vn43 ?hn43 ?on43 ?kn43 ?ln43 ?gn43 ?dn43 ?en43 ?_
       case hn43 => exact rfl
       case on43 => exact rfl
       case fn43 => exact (fun R => (.cells (meC t 1 v v v) 27 (0, 0)))
       case un43 => exact (fun R => .pointer (some ⟨g0 + 1, 0, none⟩))
       case vn43 => exact (fun R => .agg (meC t 1 v v v))
       case kn43 => exact (fun R => rfl)
       case ln43 => exact rfl
       case gn43 => exact gd_none rfl
       case dn43 =>
         intro R
         kernel_rfl
       case en43 =>
         intro R
         kernel_rfl
       intro R s ρ w hT hs hp hx hz
       refine ⟨store_rowN (g := (g0 + 1)) rfl hp hx (hz.trans P4) iMean (rfl) ((meX_of t 1 v v v).s) ((meX_of t 1 v v v).o), fun w1 hF => ue_self hT hF⟩
     · refine er_q ?vn44 ?hn44 ?kn44 ?gn44 ?_
       case hn44 => exact rfl
       case vn44 => exact (fun R => .slice A8 l.length c8)
       case kn44 => exact (fun R => rfl)
       case gn44 => exact gd_none rfl
       intro R s w' hT hs hw ha
       go_simp
     · refine er_q ?vn45 ?hn45 ?kn45 ?gn45 ?_
       case hn45 => exact rfl
       case vn45 => exact (fun R => .int .i64 0)
       case kn45 => exact (fun R => rfl)
       case gn45 => exact gd_none rfl
       intro R s w' hT hs hw ha
       go_simp
   case end45 =>
    intro sI R G w46 hI
    have hS := hI.same
    have hTT := hI.holds
    have hz0 := EE.out.2.2.2.1
    replace P2 := P2.sameE hS (fun h => h) (by intro c hc; simp at hc; (try subst hc); (try simp only); omega)
    replace P4 : Blk w46 (g0 + 1) 27 (meC t 1 v v v) := hI.olds' 8 (List.mem_range.2 (show 8 < 11 by decide)) 0 rfl
    replace EE := hide (show Upd (g0 + 1) _ _ from hTT)
    clear hS hz0 hTT hI P2_lt P4_lt
    generalize hF : putE _ _ _ _ _ _ _ = FF
    have hF2 : FF = { tmps := #[.agg X, .int .i64 v, .pointer (some ⟨g0, 0, none⟩), undef, .pointer (some ⟨g0 + 1, 0, none⟩), .slice A8 l.length c8, .int .i64 0, .pointer (some ⟨g7, 0, none⟩), .slice A8 l.length c8, .int .i64 0, .agg X, .bool true, .bool false, undef, .pointer (some ⟨g0, 1, none⟩), .int .i64 c, .bool false, undef, .pointer (some ⟨g0, 0, none⟩), .int .i64 t, .pointer (some ⟨g0, 1, none⟩), .int .i64 c, .int .i64 (c + 1), .pointer (some ⟨g0, 2, none⟩), .int .i64 lo, .int .i64 v, .int .i64 (min lo v), .pointer (some ⟨g0, 3, none⟩), .int .i64 hi, .int .i64 v, .int .i64 (max hi v), .agg (meC t (c + 1) (min lo v) (max hi v) 0), .tuple #[.agg (wCe u), .bool true], .pointer (some ⟨g0, 4, none⟩), .agg (wCe z), .int .i64 v, .agg (wCe v), .tuple #[.agg (wCe u), .bool true], .agg (wCe u), .bool true, .pointer (some ⟨g7, 4, none⟩), .pointer (some ⟨g0, 1, none⟩), .int .i64 c, .bool false, .bool false, undef, undef, .bool false, undef, .tuple #[.slice A8 l.length c8, .int .i64 0], .agg X, .tuple #[.slice A8 l.length c8, .int .i64 0], .slice A8 l.length c8, .int .i64 0, .pointer (some ⟨g0, 0, none⟩), .int .i64 t, .int .i64 v, .int .i64 v, .int .i64 v, .agg (wCe v), .agg (meC t 1 v v v), .slice A8 l.length c8], defers := [] } := by subst hF; kernel_rfl
    clear hF
    subst hF2
    go_wp2_with fail
    exact bodyPost_ret (res3 (p := 4) (u := 5) (u2 := 6) (ty := 27) rfl _ _ _ 27 (meC t 1 v v v) _ rfl P4 uMean rfl iMean) rfl ⟨A8, c8, by kernel_rfl, (H8.out.upd EE.out Q4).less hz8, Upd.ext EE.out E9.out P4_lo⟩
end
section
open Go Go.RowKit Go.Sort
attribute [local go_sem] qUpon eUpon putE slE
def sgN : Array Value := #[.func (.func 62) #[] #[], .func (.func 55) #[] #[], .func (.func 52) #[] #[]]
theorem uSgn : Try.prog.underlying 86 = some (.struct (Try.prog.fieldsOf 86)) := by kernel_rfl
theorem iSgn : (Try.prog.info? 86).map (·.size) = some 3 := by kernel_rfl
theorem p_means (W : World) : Calls Try.prog 42 #[] W (Ret (.agg sgN) W) := by
 go_enter Try.func42, Try.ntmps42
 go_wp2_with fail
 exact bodyPost_ret (results_cell_row (p := 0) (ty := 86) rfl _ _ _ 86 sgN (0, 0) _ rfl (Blk.new _ _ _) uSgn rfl iSgn) rfl ⟨rfl, ext_alloc _ _⟩
set_option maxHeartbeats 3200000 in
set_option maxRecDepth 100000 in
theorem p_segY (X S : Array Value) (t c lo hi : Int) (hX : MeX X t c lo hi S) (Y : Array Value) (v : Int) (sY : Y.size = 9) (oY : Y.all (·.oneCell') = true) (kx : Hid (∀ w, Calls Try.prog 62 #[.agg X, .int .i64 v] w (Ret (.tuple #[.agg Y, .bool true]) w))) (W : World) : Calls Try.prog 51 #[.agg sgN, .agg X, .int .i64 v] W (CoPair Y [] W) := by
 have he1 : ∀ a w, (callFunc 62 a).run Try.prog w = .ok (.enter 62 a) w := fun a w => by go_simp
 have P3 := ((Blk.new W 86 sgN).alloc (.cells X 27)).alloc (.cells z9m 27)
 have P4 := (Blk.new (W.alloc (.cells sgN 86)) 27 X).alloc (.cells z9m 27)
 rw [alloc_size] at P4
 have P6 := Blk.new ((W.alloc (.cells sgN 86)).alloc (.cells X 27)) 27 z9m
 simp only [alloc_size] at P6
 have EE := hide (((ext_alloc W (.cells sgN 86)).trans (ext_alloc _ (.cells X 27))).trans (ext_alloc _ (.cells z9m 27)))
 obtain ⟨W1, hW1⟩ : ∃ W1, (((W.alloc (.cells sgN 86)).alloc (.cells X 27)).alloc (.cells z9m 27)) = W1 := ⟨_, rfl⟩
 obtain ⟨g0, hg⟩ : ∃ g, W.heap.size = g := ⟨_, rfl⟩
 rw [hW1] at P3 P4 P6 EE
 rw [hg] at P3 P4 P6
 have P3_lo : W.heap.size ≤ g0 := by omega
 have P4_lo : W.heap.size ≤ g0 + 1 := by omega
 have P6_lo : W.heap.size ≤ g0 + 1 + 1 := by omega
 have HW := hide hW1
 have Hg := hide hg
 clear hW1 hg
 go_enter Try.func51, Try.ntmps51
 go_upto_region 1 with fail
 unfold z9m at HW
 rw [HW.out, Hg.out]
 clear HW Hg
 have P3_lt := P3.lt
 have P4_lt := P4.lt
 have P6_lt := P6.lt
 refine wp_evs [.q, .q, .q, .q, .q, .q, .q, .q, .al, .st 8, .q] [0, 0, 0, 0, 0, 0, 0, 0, 0, 0, 0] (fun R => [.pointer (some ⟨g0, 0, none⟩), .func (.func 62) #[] #[], .agg X, .int .i64 v, .tuple #[.agg Y, .bool true], .tuple #[.agg Y, .bool true], .agg Y, .bool true, undef, undef, .bool true]) (fun _ => (.cells z9m 27 (0, 0))) (fun R _ => (.cells Y 27 (0, 0))) (fun _ => 0) (XE W) (fun _ => False) (by kernel_rfl) (by kernel_rfl) (by kernel_rfl) rfl (fun _ => rfl) (fun _ h => h.elim) (fun _ _ h => h) (by simp) (by simp) (fun R R' => ⟨fun _ => rfl, fun _ => rfl, fun _ => rfl, fun _ => rfl, fun _ => rfl, fun _ => rfl, fun _ => rfl, fun _ => rfl, fun _ => rfl, fun _ => rfl, fun _ => rfl, trivial⟩) (fun _ _ _ _ => rfl) xe_below EE.out ?ops11 ?end11
 case ops11 =>
   refine ⟨?_, ?_, ?_, ?_, ?_, ?_, ?_, ?_, ?_, ?_, ?_, trivial⟩
   · refine er_q ?vn1 ?hn1 ?kn1 ?gn1 ?_
     case hn1 => exact rfl
     case vn1 => exact (fun R => .pointer (some ⟨g0, 0, none⟩))
     case kn1 => exact (fun R => rfl)
     case gn1 => exact gd_none rfl
     intro R s w' hT hs hw ha
     go_simp
   · refine er_q ?vn2 ?hn2 ?kn2 ?gn2 ?_
     case hn2 => exact rfl
     case vn2 => exact (fun R => .func (.func 62) #[] #[])
     case kn2 => exact (fun R => rfl)
     case gn2 => exact gd_none rfl
     intro R s w' hT hs hw ha
     have cc := ((show Blk w' g0 _ sgN from P3.sameE hw (fun h => h) (by simp)).cell 0).trans (show sgN[0]? = some (.func (.func 62) #[] #[]) from rfl)
     go_simp
   · refine er_q ?vn3 ?hn3 ?kn3 ?gn3 ?_
     case hn3 => exact rfl
     case vn3 => exact (fun R => .agg X)
     case kn3 => exact (fun R => rfl)
     case gn3 => exact gd_none rfl
     intro R s w' hT hs hw ha
     have L := ld_all (P4.sameE hw (fun h => h) (by simp)) uMean rfl iMean hX.s
     generalize hA : putE _ _ _ _ _ _ _ = AA
     refine q_load rfl ?_ L
     subst hA
     kernel_rfl
   · refine er_q ?vn4 ?hn4 ?kn4 ?gn4 ?_
     case hn4 => exact rfl
     case vn4 => exact (fun R => .int .i64 v)
     case kn4 => exact (fun R => rfl)
     case gn4 => exact gd_none rfl
     intro R s w' hT hs hw ha
     go_simp
   · refine er_q ?vn5 ?hn5 ?kn5 ?gn5 ?_
     case hn5 => exact rfl
     case vn5 => exact (fun R => .tuple #[.agg Y, .bool true])
     case kn5 => exact (fun R => rfl)
     case gn5 => exact gd_none rfl
     intro R s w' hT hs hw ha
     go_simp
     exact kx.out w'
   · refine er_q ?vn6 ?hn6 ?kn6 ?gn6 ?_
     case hn6 => exact rfl
     case vn6 => exact (fun R => .tuple #[.agg Y, .bool true])
     case kn6 => exact (fun R => rfl)
     case gn6 => exact gd_none rfl
     intro R s w' hT hs hw ha
     go_simp
   · refine er_q ?vn7 ?hn7 ?kn7 ?gn7 ?_
     case hn7 => exact rfl
     case vn7 => exact (fun R => .agg Y)
     case kn7 => exact (fun R => rfl)
     case gn7 => exact gd_none rfl
     intro R s w' hT hs hw ha
     go_simp
   · refine er_q ?vn8 ?hn8 ?kn8 ?gn8 ?_
     case hn8 => exact rfl
     case vn8 => exact (fun R => .bool true)
     case kn8 => exact (fun R => rfl)
     case gn8 => exact gd_none rfl
     intro R s w' hT hs hw ha
     go_simp
   · refine er_al ?zn9 ?hn9 ?kn9 ?gn9 ?_
     case zn9 => exact (.cells z9m 27 (0, 0))
     case hn9 => exact rfl
     case kn9 => exact rfl
     case gn9 => exact gd_none rfl
     intro ρ w'
     go_simp
     exact ⟨rfl, rfl⟩
   · refine er_st (j := 8) (Ty := ?Tn10) (p := ?pn10) (x := ?xn10) ?fn10 ?zn10 ?vn10 ?hn10 ?on10 ?kn10 ?ln10 ?gn10 ?en10 ?_
     case hn10 => exact rfl
     case on10 => exact rfl
     case fn10 => exact (fun R => (.cells Y 27 (0, 0)))
     case zn10 => exact (.cells z9m 27 (0, 0))
     case vn10 => exact (fun R => .agg Y)
     case kn10 => exact (fun R => rfl)
     case ln10 => exact rfl
     case gn10 => exact gd_none rfl
     case en10 =>
       intro R
       kernel_rfl
     intro R s ρ w g hT hs hp hx hg hz
     exact ⟨store_row rfl hp hx hz iMean (sY) (oY), fun w1 hF => ext_filled hT hF (Nat.le_trans EE.out.size hg)⟩
   · refine er_q ?vn11 ?hn11 ?kn11 ?gn11 ?_
     case hn11 => exact rfl
     case vn11 => exact (fun R => .bool true)
     case kn11 => exact (fun R => rfl)
     case gn11 => exact gd_none rfl
     intro R s w' hT hs hw ha
     go_simp
 case end11 =>
  intro sI R G w12 hI
  have hS := hI.same
  have hTT := hI.holds
  have hz0 := EE.out.size
  replace P3 := P3.sameE hS (fun h => h) (by simp)
  replace P4 := P4.sameE hS (fun h => h) (by simp)
  replace P6 := P6.sameE hS (fun h => h) (by simp)
  have P8 : Blk w12 (G 8) 27 Y := (hI.fulls 9 (List.mem_range.2 (show 9 < 11 by decide)) 8 rfl).2.2
  have hmP8 := (hI.made 8 (List.mem_range.2 (show 8 < 11 by decide)) rfl).1
  have P8_lo : W.heap.size ≤ G 8 := Nat.le_trans hz0 hmP8
  have ngP3_8 : g0 ≠ G 8 := by omega
  have ngP4_8 : g0 + 1 ≠ G 8 := by omega
  have ngP6_8 : g0 + 1 + 1 ≠ G 8 := by omega
  replace EE := hide (show Ext _ _ from hTT)
  clear hS hz0 hTT hI P3_lt P4_lt P6_lt
  generalize hF : putE _ _ _ _ _ _ _ = FF
  have hF2 : FF = { tmps := #[.agg sgN, .agg X, .int .i64 v, .pointer (some ⟨g0, 0, none⟩), .pointer (some ⟨g0 + 1, 0, none⟩), undef, .pointer (some ⟨g0 + 1 + 1, 0, none⟩), .slice none 0 0, .pointer (some ⟨G 8, 0, none⟩), .bool true, .tuple #[.agg Y, .bool true], .pointer (some ⟨g0, 0, none⟩), .func (.func 62) #[] #[], .agg X, .int .i64 v, .tuple #[.agg Y, .bool true], .agg Y, .bool true, undef, undef, undef, undef, undef, undef, undef, undef, undef, undef, undef], defers := [] } := by subst hF; kernel_rfl
  clear hF
  subst hF2
  generalize G 8 = g8 at *
  go_upto_region 2 with fail
  refine wp_region_reads ?_
  repeat (first | go_big_quiet_step (fail) | quiet_step (fail))
  refine wpQuiet_nil ?_
  intro _ hw'
  obtain ⟨⟨dq, osq⟩, hw''⟩ := hw'
  subst hw''
  replace P3 := (P3).ext (ext_regrown w12 dq osq)
  replace P4 := (P4).ext (ext_regrown w12 dq osq)
  replace P6 := (P6).ext (ext_regrown w12 dq osq)
  replace P8 := (P8).ext (ext_regrown w12 dq osq)
  replace EE := hide (EE.out.trans (ext_regrown w12 dq osq))
  obtain ⟨w14, hzq13⟩ : ∃ w, grow (redrawn w12 dq) osq = w := ⟨_, rfl⟩
  rw [hzq13] at EE P3 P4 P6 P8 ⊢
  clear hzq13
  go_upto_region 3 with fail
  have P3_lt := P3.lt
  have P4_lt := P4.lt
  have P6_lt := P6.lt
  have P8_lt := P8.lt
  refine wp_evs [.q, .so 0, .q] [0, 0, 0] (fun R => [.agg Y, undef, .slice none 0 0]) (fun _ => (.cells #[] 0 (0, 0))) (fun R _ => (.cells Y 27 (0, 0))) (fun _ => g0 + 1 + 1) (XE W) (fun _ => False) (by kernel_rfl) (by kernel_rfl) (by kernel_rfl) rfl (fun _ => rfl) (fun _ h => h.elim) (fun _ _ h => h) (by intro c hc; simp at hc; (try subst hc); (try simp only); omega) (by intro c c' h1 h2 _; simp at h1 h2; omega) (fun R R' => ⟨fun _ => rfl, fun _ => rfl, fun _ => rfl, trivial⟩) (fun _ _ _ _ => rfl) xe_below EE.out ?ops17 ?end17
  case ops17 =>
    refine ⟨?_, ?_, ?_, trivial⟩
    · refine er_q ?vn15 ?hn15 ?kn15 ?gn15 ?_
      case hn15 => exact rfl
      case vn15 => exact (fun R => .agg Y)
      case kn15 => exact (fun R => rfl)
      case gn15 => exact gd_none rfl
      intro R s w' hT hs hw ha
      have L := ld_all (P8.sameE hw (fun h => h) (by intro c hc; simp at hc; (try subst hc); (try simp only); omega)) uMean rfl iMean sY
      generalize hA : putE _ _ _ _ _ _ _ = AA
      refine q_load rfl ?_ L
      subst hA
      kernel_rfl
    · refine er_so (c := 0) (Ty := ?Tn16) (p := ?pn16) (x := ?xn16) (g0 + 1 + 1) ?fn16 ?un16 ?vn16 ?hn16 ?on16 ?kn16 ?ln16 ?gn16 ?dn16 ?en16 ?_
      case hn16 => exact rfl
      case on16 => exact rfl
      case fn16 => exact (fun R => (.cells Y 27 (0, 0)))
      case un16 => exact (fun R => .pointer (some ⟨g0 + 1 + 1, 0, none⟩))
      case vn16 => exact (fun R => .agg Y)
      case kn16 => exact (fun R => rfl)
      case ln16 => exact rfl
      case gn16 => exact gd_none rfl
      case dn16 =>
        intro R
        kernel_rfl
      case en16 =>
        intro R
        kernel_rfl
      intro R s ρ w hT hs hp hx hz
      refine ⟨store_rowN (g := (g0 + 1 + 1)) rfl hp hx (hz.trans P6) iMean (rfl) (sY) (oY), fun w1 hF => ext_filled hT hF P6_lo⟩
    · refine er_q ?vn17 ?hn17 ?kn17 ?gn17 ?_
      case hn17 => exact rfl
      case vn17 => exact (fun R => .slice none 0 0)
      case kn17 => exact (fun R => rfl)
      case gn17 => exact gd_none rfl
      intro R s w' hT hs hw ha
      go_simp
  case end17 =>
   intro sI R G w18 hI
   have hS := hI.same
   have hTT := hI.holds
   have hz0 := EE.out.size
   replace P3 := P3.sameE hS (fun h => h) (by intro c hc; simp at hc; (try subst hc); (try simp only); omega)
   replace P4 := P4.sameE hS (fun h => h) (by intro c hc; simp at hc; (try subst hc); (try simp only); omega)
   replace P8 := P8.sameE hS (fun h => h) (by intro c hc; simp at hc; (try subst hc); (try simp only); omega)
   replace P6 : Blk w18 (g0 + 1 + 1) 27 Y := hI.olds' 1 (List.mem_range.2 (show 1 < 3 by decide)) 0 rfl
   replace EE := hide (show Ext _ _ from hTT)
   clear hS hz0 hTT hI P3_lt P4_lt P6_lt P8_lt
   generalize hF : putE _ _ _ _ _ _ _ = FF
   have hF2 : FF = { tmps := #[.agg sgN, .agg X, .int .i64 v, .pointer (some ⟨g0, 0, none⟩), .pointer (some ⟨g0 + 1, 0, none⟩), undef, .pointer (some ⟨g0 + 1 + 1, 0, none⟩), .slice none 0 0, .pointer (some ⟨g8, 0, none⟩), .bool true, .tuple #[.agg Y, .bool true], .pointer (some ⟨g0, 0, none⟩), .func (.func 62) #[] #[], .agg X, .int .i64 v, .tuple #[.agg Y, .bool true], .agg Y, .bool true, .bool true, .agg Y, undef, undef, undef, undef, undef, undef, undef, undef, undef], defers := [] } := by subst hF; kernel_rfl
   clear hF
   subst hF2
   go_wp2_with fail
   exact bodyPost_ret (res2 (p := 6) (u := 7) (ty := 27) rfl _ _ _ 27 Y _ rfl P6 uMean rfl (by rw [sY]; exact iMean)) rfl ⟨none, 0, by kernel_rfl, OwnC.nil_ _ _, EE.out⟩
set_option maxHeartbeats 3200000 in
set_option maxRecDepth 100000 in
theorem p_segN (X S : Array Value) (t c lo hi : Int) (hX : MeX X t c lo hi S) (Y : Array Value) (v : Int) (l : List (Int × Int)) (sY : Y.size = 9) (oY : Y.all (·.oneCell') = true) (kx : Hid (∀ w, Calls Try.prog 62 #[.agg X, .int .i64 v] w (Ret (.tuple #[.agg z9m, .bool false]) w))) (kb : Hid (∀ w, Calls Try.prog 55 #[.agg X, .int .i64 v] w (Ret (.agg Y) w))) (ke : Hid (∀ w, Calls Try.prog 52 #[.agg X] w (CoGet l w))) (W : World) : Calls Try.prog 51 #[.agg sgN, .agg X, .int .i64 v] W (CoPair Y l W) := by
 have he1 : ∀ a w, (callFunc 62 a).run Try.prog w = .ok (.enter 62 a) w := fun a w => by go_simp
 have he2 : ∀ a w, (callFunc 55 a).run Try.prog w = .ok (.enter 55 a) w := fun a w => by go_simp
 have he3 : ∀ a w, (callFunc 52 a).run Try.prog w = .ok (.enter 52 a) w := fun a w => by go_simp
 have P3 := ((Blk.new W 86 sgN).alloc (.cells X 27)).alloc (.cells z9m 27)
 have P4 := (Blk.new (W.alloc (.cells sgN 86)) 27 X).alloc (.cells z9m 27)
 rw [alloc_size] at P4
 have P6 := Blk.new ((W.alloc (.cells sgN 86)).alloc (.cells X 27)) 27 z9m
 simp only [alloc_size] at P6
 have EE := hide (((ext_alloc W (.cells sgN 86)).trans (ext_alloc _ (.cells X 27))).trans (ext_alloc _ (.cells z9m 27)))
 obtain ⟨W1, hW1⟩ : ∃ W1, (((W.alloc (.cells sgN 86)).alloc (.cells X 27)).alloc (.cells z9m 27)) = W1 := ⟨_, rfl⟩
 obtain ⟨g0, hg⟩ : ∃ g, W.heap.size = g := ⟨_, rfl⟩
 rw [hW1] at P3 P4 P6 EE
 rw [hg] at P3 P4 P6
 have P3_lo : W.heap.size ≤ g0 := by omega
 have P4_lo : W.heap.size ≤ g0 + 1 := by omega
 have P6_lo : W.heap.size ≤ g0 + 1 + 1 := by omega
 have HW := hide hW1
 have Hg := hide hg
 clear hW1 hg
 go_enter Try.func51, Try.ntmps51
 go_upto_region 1 with fail
 unfold z9m at HW
 rw [HW.out, Hg.out]
 clear HW Hg
 have P3_lt := P3.lt
 have P4_lt := P4.lt
 have P6_lt := P6.lt
 refine wp_evs [.q, .q, .q, .q, .q, .q, .q, .q, .al, .st 8, .q] [0, 0, 0, 0, 0, 0, 0, 0, 0, 0, 0] (fun R => [.pointer (some ⟨g0, 0, none⟩), .func (.func 62) #[] #[], .agg X, .int .i64 v, .tuple #[.agg z9m, .bool false], .tuple #[.agg z9m, .bool false], .agg z9m, .bool false, undef, undef, .bool false]) (fun _ => (.cells z9m 27 (0, 0))) (fun R _ => (.cells z9m 27 (0, 0))) (fun _ => 0) (XE W) (fun _ => False) (by kernel_rfl) (by kernel_rfl) (by kernel_rfl) rfl (fun _ => rfl) (fun _ h => h.elim) (fun _ _ h => h) (by simp) (by simp) (fun R R' => ⟨fun _ => rfl, fun _ => rfl, fun _ => rfl, fun _ => rfl, fun _ => rfl, fun _ => rfl, fun _ => rfl, fun _ => rfl, fun _ => rfl, fun _ => rfl, fun _ => rfl, trivial⟩) (fun _ _ _ _ => rfl) xe_below EE.out ?ops11 ?end11
 case ops11 =>
   refine ⟨?_, ?_, ?_, ?_, ?_, ?_, ?_, ?_, ?_, ?_, ?_, trivial⟩
   · refine er_q ?vn1 ?hn1 ?kn1 ?gn1 ?_
     case hn1 => exact rfl
     case vn1 => exact (fun R => .pointer (some ⟨g0, 0, none⟩))
     case kn1 => exact (fun R => rfl)
     case gn1 => exact gd_none rfl
     intro R s w' hT hs hw ha
     go_simp
   · refine er_q ?vn2 ?hn2 ?kn2 ?gn2 ?_
     case hn2 => exact rfl
     case vn2 => exact (fun R => .func (.func 62) #[] #[])
     case kn2 => exact (fun R => rfl)
     case gn2 => exact gd_none rfl
     intro R s w' hT hs hw ha
     have cc := ((show Blk w' g0 _ sgN from P3.sameE hw (fun h => h) (by simp)).cell 0).trans (show sgN[0]? = some (.func (.func 62) #[] #[]) from rfl)
     go_simp
   · refine er_q ?vn3 ?hn3 ?kn3 ?gn3 ?_
     case hn3 => exact rfl
     case vn3 => exact (fun R => .agg X)
     case kn3 => exact (fun R => rfl)
     case gn3 => exact gd_none rfl
     intro R s w' hT hs hw ha
     have L := ld_all (P4.sameE hw (fun h => h) (by simp)) uMean rfl iMean hX.s
     generalize hA : putE _ _ _ _ _ _ _ = AA
     refine q_load rfl ?_ L
     subst hA
     kernel_rfl
   · refine er_q ?vn4 ?hn4 ?kn4 ?gn4 ?_
     case hn4 => exact rfl
     case vn4 => exact (fun R => .int .i64 v)
     case kn4 => exact (fun R => rfl)
     case gn4 => exact gd_none rfl
     intro R s w' hT hs hw ha
     go_simp
   · refine er_q ?vn5 ?hn5 ?kn5 ?gn5 ?_
     case hn5 => exact rfl
     case vn5 => exact (fun R => .tuple #[.agg z9m, .bool false])
     case kn5 => exact (fun R => rfl)
     case gn5 => exact gd_none rfl
     intro R s w' hT hs hw ha
     go_simp
     exact kx.out w'
   · refine er_q ?vn6 ?hn6 ?kn6 ?gn6 ?_
     case hn6 => exact rfl
     case vn6 => exact (fun R => .tuple #[.agg z9m, .bool false])
     case kn6 => exact (fun R => rfl)
     case gn6 => exact gd_none rfl
     intro R s w' hT hs hw ha
     go_simp
   · refine er_q ?vn7 ?hn7 ?kn7 ?gn7 ?_
     case hn7 => exact rfl
     case vn7 => exact (fun R => .agg z9m)
     case kn7 => exact (fun R => rfl)
     case gn7 => exact gd_none rfl
     intro R s w' hT hs hw ha
     go_simp
   · refine er_q ?vn8 ?hn8 ?kn8 ?gn8 ?_
     case hn8 => exact rfl
     case vn8 => exact (fun R => .bool false)
     case kn8 => exact (fun R => rfl)
     case gn8 => exact gd_none rfl
     intro R s w' hT hs hw ha
     go_simp
   · refine er_al ?zn9 ?hn9 ?kn9 ?gn9 ?_
     case zn9 => exact (.cells z9m 27 (0, 0))
     case hn9 => exact rfl
     case kn9 => exact rfl
     case gn9 => exact gd_none rfl
     intro ρ w'
     go_simp
     exact ⟨rfl, rfl⟩
   · refine er_st (j := 8) (Ty := ?Tn10) (p := ?pn10) (x := ?xn10) ?fn10 ?zn10 ?vn10 ?hn10 ?on10 ?kn10 ?ln10 ?gn10 ?en10 ?_
     case hn10 => exact rfl
     case on10 => exact rfl
     case fn10 => exact (fun R => (.cells z9m 27 (0, 0)))
     case zn10 => exact (.cells z9m 27 (0, 0))
     case vn10 => exact (fun R => .agg z9m)
     case kn10 => exact (fun R => rfl)
     case ln10 => exact rfl
     case gn10 => exact gd_none rfl
     case en10 =>
       intro R
       kernel_rfl
     intro R s ρ w g hT hs hp hx hg hz
     exact ⟨store_row rfl hp hx hz iMean (rfl) (z9m_one), fun w1 hF => ext_filled hT hF (Nat.le_trans EE.out.size hg)⟩
   · refine er_q ?vn11 ?hn11 ?kn11 ?gn11 ?_
     case hn11 => exact rfl
     case vn11 => exact (fun R => .bool false)
     case kn11 => exact (fun R => rfl)
     case gn11 => exact gd_none rfl
     intro R s w' hT hs hw ha
     go_simp
 case end11 =>
  intro sI R G w12 hI
  have hS := hI.same
  have hTT := hI.holds
  have hz0 := EE.out.size
  replace P3 := P3.sameE hS (fun h => h) (by simp)
  replace P4 := P4.sameE hS (fun h => h) (by simp)
  replace P6 := P6.sameE hS (fun h => h) (by simp)
  have P8 : Blk w12 (G 8) 27 z9m := (hI.fulls 9 (List.mem_range.2 (show 9 < 11 by decide)) 8 rfl).2.2
  have hmP8 := (hI.made 8 (List.mem_range.2 (show 8 < 11 by decide)) rfl).1
  have P8_lo : W.heap.size ≤ G 8 := Nat.le_trans hz0 hmP8
  have ngP3_8 : g0 ≠ G 8 := by omega
  have ngP4_8 : g0 + 1 ≠ G 8 := by omega
  have ngP6_8 : g0 + 1 + 1 ≠ G 8 := by omega
  replace EE := hide (show Ext _ _ from hTT)
  clear hS hz0 hTT hI P3_lt P4_lt P6_lt
  generalize hF : putE _ _ _ _ _ _ _ = FF
  have hF2 : FF = { tmps := #[.agg sgN, .agg X, .int .i64 v, .pointer (some ⟨g0, 0, none⟩), .pointer (some ⟨g0 + 1, 0, none⟩), undef, .pointer (some ⟨g0 + 1 + 1, 0, none⟩), .slice none 0 0, .pointer (some ⟨G 8, 0, none⟩), .bool false, .tuple #[.agg z9m, .bool false], .pointer (some ⟨g0, 0, none⟩), .func (.func 62) #[] #[], .agg X, .int .i64 v, .tuple #[.agg z9m, .bool false], .agg z9m, .bool false, undef, undef, undef, undef, undef, undef, undef, undef, undef, undef, undef], defers := [] } := by subst hF; kernel_rfl
  clear hF
  subst hF2
  generalize G 8 = g8 at *
  go_upto_region 2 with fail
  refine wp_region_reads ?_
  repeat (first | go_big_quiet_step (fail) | quiet_step (fail))
  refine wpQuiet_nil ?_
  intro _ hw'
  obtain ⟨⟨dq, osq⟩, hw''⟩ := hw'
  subst hw''
  replace P3 := (P3).ext (ext_regrown w12 dq osq)
  replace P4 := (P4).ext (ext_regrown w12 dq osq)
  replace P6 := (P6).ext (ext_regrown w12 dq osq)
  replace P8 := (P8).ext (ext_regrown w12 dq osq)
  replace EE := hide (EE.out.trans (ext_regrown w12 dq osq))
  obtain ⟨w14, hzq13⟩ : ∃ w, grow (redrawn w12 dq) osq = w := ⟨_, rfl⟩
  rw [hzq13] at EE P3 P4 P6 P8 ⊢
  clear hzq13
  go_upto_region 4 with fail
  have P3_lt := P3.lt
  have P4_lt := P4.lt
  have P6_lt := P6.lt
  have P8_lt := P8.lt
  refine wp_ev [.q, .q, .q, .q, .q, .q, .q, .q, .ev 0, .so 0, .q] [0, 0, 0, 0, 0, 0, 0, 0, 0, 0, 1] (fun R => [.pointer (some ⟨g0, 1, none⟩), .func (.func 55) #[] #[], .agg X, .int .i64 v, .agg Y, .pointer (some ⟨g0, 2, none⟩), .func (.func 52) #[] #[], .agg X, undef, undef, (R 0)]) (fun _ => (.cells #[] 0 (0, 0))) (fun R _ => (.cells Y 27 (0, 0))) (fun _ => g0 + 1 + 1) (CS W l) (fun _ => False) (by kernel_rfl) (by kernel_rfl) (by kernel_rfl) (by kernel_rfl) rfl (fun _ => rfl) (fun _ h => h.elim) (fun _ _ h => h) (by intro c hc; simp at hc; (try subst hc); (try simp only); omega) (by intro c c' h1 h2 _; simp at h1 h2; omega) (fun R R' => ⟨fun _ => rfl, fun _ => rfl, fun _ => rfl, fun _ => rfl, fun _ => rfl, fun _ => rfl, fun _ => rfl, fun _ => rfl, fun _ => rfl, fun _ => rfl, fun h => by simp only [h 0 (by decide)], trivial⟩) (fun _ _ _ _ => rfl) cs_below ⟨EE.out.trans (ext_drew _), fun h => absurd h (by decide)⟩ ?ops25 ?end25
  case ops25 =>
    refine ⟨?_, ?_, ?_, ?_, ?_, ?_, ?_, ?_, ?_, ?_, ?_, trivial⟩
    · refine er_q ?vn15 ?hn15 ?kn15 ?gn15 ?_
      case hn15 => exact rfl
      case vn15 => exact (fun R => .pointer (some ⟨g0, 1, none⟩))
      case kn15 => exact (fun R => rfl)
      case gn15 => exact gd_none rfl
      intro R s w' hT hs hw ha
      go_simp
    · refine er_q ?vn16 ?hn16 ?kn16 ?gn16 ?_
      case hn16 => exact rfl
      case vn16 => exact (fun R => .func (.func 55) #[] #[])
      case kn16 => exact (fun R => rfl)
      case gn16 => exact gd_none rfl
      intro R s w' hT hs hw ha
      have cc := ((show Blk w' g0 _ sgN from P3.sameE hw (fun h => h) (by intro c hc; simp at hc; (try subst hc); (try simp only); omega)).cell 1).trans (show sgN[1]? = some (.func (.func 55) #[] #[]) from rfl)
      go_simp
    · refine er_q ?vn17 ?hn17 ?kn17 ?gn17 ?_
      case hn17 => exact rfl
      case vn17 => exact (fun R => .agg X)
      case kn17 => exact (fun R => rfl)
      case gn17 => exact gd_none rfl
      intro R s w' hT hs hw ha
      have L := ld_all (P4.sameE hw (fun h => h) (by intro c hc; simp at hc; (try subst hc); (try simp only); omega)) uMean rfl iMean hX.s
      generalize hA : putE _ _ _ _ _ _ _ = AA
      refine q_load rfl ?_ L
      subst hA
      kernel_rfl
    · refine er_q ?vn18 ?hn18 ?kn18 ?gn18 ?_
      case hn18 => exact rfl
      case vn18 => exact (fun R => .int .i64 v)
      case kn18 => exact (fun R => rfl)
      case gn18 => exact gd_none rfl
      intro R s w' hT hs hw ha
      go_simp
    · refine er_q ?vn19 ?hn19 ?kn19 ?gn19 ?_
      case hn19 => exact rfl
      case vn19 => exact (fun R => .agg Y)
      case kn19 => exact (fun R => rfl)
      case gn19 => exact gd_none rfl
      intro R s w' hT hs hw ha
      go_simp
      exact kb.out w'
    · refine er_q ?vn20 ?hn20 ?kn20 ?gn20 ?_
      case hn20 => exact rfl
      case vn20 => exact (fun R => .pointer (some ⟨g0, 2, none⟩))
      case kn20 => exact (fun R => rfl)
      case gn20 => exact gd_none rfl
      intro R s w' hT hs hw ha
      go_simp
    · refine er_q ?vn21 ?hn21 ?kn21 ?gn21 ?_
      case hn21 => exact rfl
      case vn21 => exact (fun R => .func (.func 52) #[] #[])
      case kn21 => exact (fun R => rfl)
      case gn21 => exact gd_none rfl
      intro R s w' hT hs hw ha
      have cc := ((show Blk w' g0 _ sgN from P3.sameE hw (fun h => h) (by intro c hc; simp at hc; (try subst hc); (try simp only); omega)).cell 2).trans (show sgN[2]? = some (.func (.func 52) #[] #[]) from rfl)
      go_simp
    · refine er_q ?vn22 ?hn22 ?kn22 ?gn22 ?_
      case hn22 => exact rfl
      case vn22 => exact (fun R => .agg X)
      case kn22 => exact (fun R => rfl)
      case gn22 => exact gd_none rfl
      intro R s w' hT hs hw ha
      have L := ld_all (P4.sameE hw (fun h => h) (by intro c hc; simp at hc; (try subst hc); (try simp only); omega)) uMean rfl iMean hX.s
      generalize hA : putE _ _ _ _ _ _ _ = AA
      refine q_load rfl ?_ L
      subst hA
      kernel_rfl
    · refine er_ev (m := 0) ?hn23 ?gn23 ?_
      case hn23 => exact rfl
      case gn23 => exact gd_none rfl
      intro R w' hT hw
      go_simp
      refine (ke.out _).mono ?_
      rintro e w2 ⟨A1, k1, rfl, hO, hE⟩
      exact ⟨_, rfl, cs_ev hT hO hE⟩
    · refine er_so (c := 0) (Ty := ?Tn24) (p := ?pn24) (x := ?xn24) (g0 + 1 + 1) ?fn24 ?un24 ?vn24 ?hn24 ?on24 ?kn24 ?ln24 ?gn24 ?dn24 ?en24 ?_
      case hn24 => exact rfl
      case on24 => exact rfl
      case fn24 => exact (fun R => (.cells Y 27 (0, 0)))
      case un24 => exact (fun R => .pointer (some ⟨g0 + 1 + 1, 0, none⟩))
      case vn24 => exact (fun R => .agg Y)
      case kn24 => exact (fun R => rfl)
      case ln24 => exact rfl
      case gn24 => exact gd_none rfl
      case dn24 =>
        intro R
        kernel_rfl
      case en24 =>
        intro R
        kernel_rfl
      intro R s ρ w hT hs hp hx hz
      refine ⟨store_rowN (g := (g0 + 1 + 1)) rfl hp hx (hz.trans P6) iMean (rfl) (sY) (oY), fun w1 hF => cs_filled hT hF P6_lo (hz.trans P6) (by decide)⟩
    · refine er_q ?vn25 ?hn25 ?kn25 ?gn25 ?_
      case hn25 => exact rfl
      case vn25 => exact (fun R => (R 0))
      case kn25 => exact (fun R => rfl)
      case gn25 => exact gd_none rfl
      intro R s w' hT hs hw ha
      go_simp
  case end25 =>
   intro sI R G w26 hI
   have hS := hI.same
   have hTT := hI.holds
   have hz0 := EE.out.size
   have hs0 : 0 < sI := (hI.stage 8 (show 8 < 11 by decide) 0 rfl).1 (List.mem_range.2 (show 8 < 11 by decide))
   obtain ⟨A1, k1, e1, O1⟩ := hTT.2 hs0
   replace P3 := P3.sameE hS (fun h => h) (by intro c hc; simp at hc; (try subst hc); (try simp only); omega)
   replace P4 := P4.sameE hS (fun h => h) (by intro c hc; simp at hc; (try subst hc); (try simp only); omega)
   replace P8 := P8.sameE hS (fun h => h) (by intro c hc; simp at hc; (try subst hc); (try simp only); omega)
   replace P6 : Blk w26 (g0 + 1 + 1) 27 Y := hI.olds' 9 (List.mem_range.2 (show 9 < 11 by decide)) 0 rfl
   replace EE := hide hTT.1
   clear hS hz0 hTT hI P3_lt P4_lt P6_lt P8_lt
   generalize hF : putE _ _ _ _ _ _ _ = FF
   have hF2 : FF = { tmps := #[.agg sgN, .agg X, .int .i64 v, .pointer (some ⟨g0, 0, none⟩), .pointer (some ⟨g0 + 1, 0, none⟩), undef, .pointer (some ⟨g0 + 1 + 1, 0, none⟩), (R 0), .pointer (some ⟨g8, 0, none⟩), .bool false, .tuple #[.agg z9m, .bool false], .pointer (some ⟨g0, 0, none⟩), .func (.func 62) #[] #[], .agg X, .int .i64 v, .tuple #[.agg z9m, .bool false], .agg z9m, .bool false, .bool false, undef, .pointer (some ⟨g0, 1, none⟩), .func (.func 55) #[] #[], .agg X, .int .i64 v, .agg Y, .pointer (some ⟨g0, 2, none⟩), .func (.func 52) #[] #[], .agg X, (R 0)], defers := [] } := by subst hF; kernel_rfl
   clear hF
   subst hF2
   (try simp only [e1])
   have O1 := hide O1
   go_wp2_with fail
   exact bodyPost_ret (res2 (p := 6) (u := 7) (ty := 27) rfl _ _ _ 27 Y _ rfl P6 uMean rfl (by rw [sY]; exact iMean)) rfl ⟨A1, k1, by kernel_rfl, O1.out, EE.out⟩
end
section
open Go Go.RowKit Go.Sort
def stN (eps : Int) : Option Mn → Array Value
 | none => meC eps 0 0 0 0
 | some (n, lo, hi, sm) => meC eps n lo hi sm
def coN (s : Mn) : Int × Int := ((s.1 : Int), s.2.2.2 / (s.1 : Int))
theorem row_N (eps : Int) (s : Option Mn) : ∃ c lo hi z : Int, stN eps s = meC eps c lo hi z := by
 rcases s with _ | ⟨n, lo, hi, sm⟩
 · exact ⟨0, 0, 0, 0, rfl⟩
 · exact ⟨n, lo, hi, sm, rfl⟩
theorem i64_0 : I64 0 := ⟨by omega, by omega⟩
theorem f_0 : F256 0 := by unfold F256; decide
theorem okV_f {eps : Int} {n : Nat} {lo hi sm : Int} (h : OkV eps (some (n, lo, hi, sm))) : F256 sm := by
 have := sum_size h
 unfold F256
 exact Nat.lt_trans this (by decide)
theorem okV_n {eps : Int} {n : Nat} {lo hi sm : Int} (h : OkV eps (some (n, lo, hi, sm))) : I64 (n : Int) ∧ 1 ≤ (n : Int) := by
 obtain ⟨h1, h2, _⟩ := h
 exact ⟨⟨by omega, by omega⟩, by omega⟩
theorem ok_vM {eps : Int} (he : Tol eps) {s : Option Mn} (h : OkV eps s) : vM eps (numN s).1 (numN s).2.1 (numN s).2.2.1 (numN s).2.2.2 = true := by
 unfold vM
 rw [tolB_iff.2 he, Bool.true_and]
 exact decide_eq_true (numN_ok h)
theorem r_validV (eps : Int) (s : Option Mn) (he : Tol eps) (hs : OkV eps s) (W : World) : Calls Try.prog 39 #[.agg (stN eps s)] W (Ret (.bool true) W) := by
 have h := ok_vM he hs
 rcases s with _ | ⟨n, lo, hi, sm⟩
 · exact r_validM eps 0 0 0 0 (tol64 he) i64_0 i64_0 i64_0 f_0 true h W
 · exact r_validM eps n lo hi sm (tol64 he) (okV_n hs).1 hs.2.2.1 hs.2.2.2.1 (okV_f hs) true h W
theorem p_avgV {eps : Int} {n : Nat} {lo hi sm : Int} (h : OkV eps (some (n, lo, hi, sm))) (W : World) : Calls Try.prog 67 #[.agg (meC eps n lo hi sm)] W (Ret (.int .i64 (sm / (n : Int))) W) :=
 p_avgM eps n lo hi sm (okV_n h).1 (okV_n h).2 h.2.2.1 h.2.2.2.1 (okV_f h) h.2.2.2.2.1 h.2.2.2.2.2.1 h.2.2.2.2.2.2.1 W
theorem r_avgV {eps : Int} {n : Nat} {lo hi sm : Int} (h : OkV eps (some (n, lo, hi, sm))) (W : World) : Calls Try.prog 53 #[.agg (meC eps n lo hi sm)] W (Ret (.tuple #[.int .i64 (sm / (n : Int)), .bool true]) W) :=
 r_avgM eps n lo hi sm (okV_n h).1 (okV_n h).2 h.2.2.1 h.2.2.2.1 (okV_f h) h.2.2.2.2.1 h.2.2.2.2.2.1 h.2.2.2.2.2.2.1 W
theorem ne_0 {n : Nat} (h : 1 ≤ (n : Int)) : ((n : Int) == 0) = false := by rw [beq_eq_false_iff_ne]; omega
theorem p_endV (eps : Int) (s : Option Mn) (hs : OkV eps s) (W : World) : Calls Try.prog 52 #[.agg (stN eps s)] W (CoGet ((endN s).map coN) W) := by
 rcases s with _ | ⟨n, lo, hi, sm⟩
 · exact p_end0 _ _ eps 0 0 0 (meX_of _ _ _ _ _) (wC_size 0) (wC_onee 0) rfl W
 · exact p_endYe _ _ eps n lo hi (meX_of _ _ _ _ _) (sm / (n : Int)) (wC_size sm) (wC_onee sm) (ne_0 (okV_n hs).2) (okV_n hs).1 (mean_i64 hs) (hide fun w => p_avgV hs w) W
theorem r_finSe (eps : Int) (s : Option Mn) (he : Tol eps) (hs : OkV eps s) (W : World) : Calls Try.prog 37 #[.agg (stN eps s)] W (CoFin ((endN s).map coN) 0 W) := by
 have kv := hide fun w => r_validV eps s he hs w
 rcases s with _ | ⟨n, lo, hi, sm⟩
 · exact r_fin0 _ _ eps 0 0 0 (meX_of _ _ _ _ _) kv rfl W
 · exact r_finYe _ _ eps n lo hi (meX_of _ _ _ _ _) (sm / (n : Int)) kv (ne_0 (okV_n hs).2) (okV_n hs).1 (mean_i64 hs) (hide fun w => r_avgV hs w) W
theorem more_b {eps : Int} {n : Nat} {lo hi sm v : Int} (h : OkV eps (some (n, lo, hi, sm))) (hv : I64 v) (hc : n < 1073741824) : I64 ((n : Int) + 1) ∧ 1 ≤ (n : Int) + 1 ∧ I64 (min lo v) ∧ I64 (max hi v) ∧ F256 (sm + v) ∧ min lo v ≤ max hi v ∧ ((n : Int) + 1 - 1) * min lo v + max hi v ≤ sm + v ∧ sm + v ≤ ((n : Int) + 1 - 1) * max hi v + min lo v := by
 have hs := sum_size h
 obtain ⟨h1, h2, ⟨h3, h3'⟩, ⟨h4, h4'⟩, h5, h6, h7, h8⟩ := h
 have := more_sum (v := v) h1 h5 h6 h7
 obtain ⟨v1, v2⟩ := hv
 refine ⟨⟨by omega, by omega⟩, by omega, ⟨by omega, by omega⟩, ⟨by omega, by omega⟩, ?_, by omega, this.1, this.2⟩
 unfold F256
 omega
theorem more_vM {eps : Int} (he : Tol eps) {n : Nat} {lo hi sm v : Int} (h : OkV eps (some (n, lo, hi, sm))) (hv : I64 v) (hc : n < 1073741824) : vM eps ((n : Int) + 1) (min lo v) (max hi v) (sm + v) = decide (FitN eps (moreN (n, lo, hi, sm) v)) := by
 unfold vM
 rw [tolB_iff.2 he, Bool.true_and, decide_eq_decide]
 have h1 := h.1
 constructor
 · intro k
   have k := (numN_2 (by omega)).1 k
   exact ⟨k.2.2.2.2.1, k.2.2.2.2.2⟩
 · intro k
   exact numN_ok ((okV_more h hv hc).2 k)
def stepFe (eps : Int) (s : Option Mn) (v : Int) : Array Value × List (Int × Int) × Nat := if cntN s = 1073741824 then (z9m, [], 3) else (stN eps (stepN eps s v).1, (stepN eps s v).2.map coN, 0)
theorem z_0 (v : Int) : (0 : Int) + v = v := by omega
set_option maxHeartbeats 1600000 in
theorem p_segS (eps : Int) (s : Option Mn) (v : Int) (he : Tol eps) (hs : OkV eps s) (hc : cntN s < 1073741824) (hv : I64 v) (W : World) :
   Calls Try.prog 51 #[.agg sgN, .agg (stN eps s), .int .i64 v] W (CoPair (stN eps (stepN eps s v).1) ((stepN eps s v).2.map coN) W) := by
 have ke := hide fun w => p_endV eps s hs w
 rcases s with _ | ⟨n, lo, hi, sm⟩
 · exact p_segN _ _ eps 0 0 0 (meX_of _ _ _ _ _) (meC eps 1 v v v) v [] rfl (meC_one _ _ _ _ _) (hide fun w => p_ext0e _ eps 0 0 0 0 (meX_of _ _ _ _ _) v rfl w) (hide fun w => p_beginN _ _ eps 0 0 0 v (meX_of _ _ _ _ _) hv w) ke W
 · have hc : n < 1073741824 := hc
   obtain ⟨b1, b2, b3, b4, b5, b6, b7, b8⟩ := more_b hs hv hc
   have k1 := hide fun w => pw_ofi hv w
   have k2 := hide fun w => pw_add (okV_f hs) (f64 hv) rfl b5 w
   have kn := fun w => p_neaM eps ((n : Int) + 1) (min lo v) (max hi v) (sm + v) he b1 b2 b3 b4 b5 b6 b7 b8 w
   rw [← Bool.decide_and] at kn
   have wr : IntKind.i64.wrap ((n : Int) + 1) = (n : Int) + 1 := by rw [IntKind.wrap_i64]; omega
   by_cases hf : FitN eps (moreN (n, lo, hi, sm) v)
   · simp only [stepN, if_pos hf]
     rw [decide_eq_true (show (sm + v) / ((n : Int) + 1) - min lo v ≤ eps ∧ max hi v - (sm + v) / ((n : Int) + 1) ≤ eps from hf)] at kn
     exact p_segY _ _ eps n lo hi (meX_of _ _ _ _ _) (meC eps ((n : Int) + 1) (min lo v) (max hi v) (sm + v)) v rfl (meC_one _ _ _ _ _) (hide fun w => p_extYe _ eps n lo hi sm (meX_of _ _ _ _ _) v (sm + v) (ne_0 (okV_n hs).2) wr k1 k2 (hide kn) w) W
   · simp only [stepN, if_neg hf]
     rw [decide_eq_false (show ¬ ((sm + v) / ((n : Int) + 1) - min lo v ≤ eps ∧ max hi v - (sm + v) / ((n : Int) + 1) ≤ eps) from hf)] at kn
     exact p_segN _ _ eps n lo hi (meX_of _ _ _ _ _) (meC eps 1 v v v) v _ rfl (meC_one _ _ _ _ _) (hide fun w => p_extNe _ eps n lo hi sm (meX_of _ _ _ _ _) v (sm + v) (ne_0 (okV_n hs).2) wr k1 k2 (hide kn) w) (hide fun w => p_beginN _ _ eps n lo hi v (meX_of _ _ _ _ _) hv w) ke W
theorem cnt_lt {eps : Int} {s : Option Mn} (hs : OkV eps s) (hc : ¬ cntN s = 1073741824) : cntN s < 1073741824 := by
 rcases s with _ | ⟨n, lo, hi, sm⟩
 · decide
 · have := hs.2.1
   have h2 : ¬ n = 1073741824 := hc
   show n < 1073741824
   omega
set_option maxHeartbeats 1600000 in
theorem r_stepFe (eps : Int) (s : Option Mn) (v : Int) (he : Tol eps) (hs : OkV eps s) (hv : I64 v) (W : World) : Calls Try.prog 24 #[.agg (stN eps s), .int .i64 v] W (CoTrip (stepFe eps s v).1 (stepFe eps s v).2.1 (stepFe eps s v).2.2 W) := by
 have kv := hide fun w => r_validV eps s he hs w
 have kn := hide fun w => r_finSe eps s he hs w
 have k1 := hide fun w => rw_ofi hv w
 unfold stepFe
 rcases s with _ | ⟨n, lo, hi, sm⟩
 · exact r_step0e _ eps 0 0 0 0 (meX_of _ _ _ _ _) v v kv (by decide) (by decide) k1 (hide fun w => rw_add f_0 (f64 hv) (z_0 v) (f64 hv) w) (by decide) [] kn W
 · by_cases hc : n = 1073741824
   · rw [if_pos (show cntN (some (n, lo, hi, sm)) = 1073741824 from hc)]
     exact (r_stepLe _ _ eps n lo hi (meX_of _ _ _ _ _) v kv (by rw [beq_iff_eq]; omega) W).mono fun _ _ h => trip_nil h
   · rw [if_neg (show ¬ cntN (some (n, lo, hi, sm)) = 1073741824 from hc)]
     have hcl : n < 1073741824 := cnt_lt hs hc
     obtain ⟨b1, b2, b3, b4, b5, b6, b7, b8⟩ := more_b hs hv hcl
     have k2 := hide fun w => rw_add (okV_f hs) (f64 hv) rfl b5 w
     have km := fun w => r_validM eps ((n : Int) + 1) (min lo v) (max hi v) (sm + v) (tol64 he) b1 b3 b4 b5 _ (more_vM he hs hv hcl) w
     have d1 : ((n : Int) == 1073741824) = false := by rw [beq_eq_false_iff_ne]; omega
     have d2 : decide (0 < (n : Int)) = true := decide_eq_true (by have := (okV_n hs).2; omega)
     have wr : IntKind.i64.wrap ((n : Int) + 1) = (n : Int) + 1 := by rw [IntKind.wrap_i64]; omega
     by_cases hf : FitN eps (moreN (n, lo, hi, sm) v)
     · simp only [stepN, if_pos hf]
       rw [decide_eq_true hf] at km
       exact (r_stepYe _ eps n lo hi sm (meX_of _ _ _ _ _) v (sm + v) kv d1 wr k1 k2 d2 (hide km) W).mono fun _ _ h => trip_nil h
     · simp only [stepN, if_neg hf]
       rw [decide_eq_false hf] at km
       exact r_stepNe _ eps n lo hi sm (meX_of _ _ _ _ _) v (sm + v) kv d1 wr k1 k2 d2 (hide km) _ kn W
end
end Go.Proofs.Ytlfmeiejocpnfaa
