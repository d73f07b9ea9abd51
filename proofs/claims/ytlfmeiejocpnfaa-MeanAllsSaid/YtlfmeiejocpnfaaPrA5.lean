/- Part 5 of what these claims stand on: contracts of the program's and the reference's functions, and plain facts. Conditions: each states its own. -/
import Derived.Test.YtlfmeiejocpnfaaPrA4
namespace Go.Proofs.Ytlfmeiejocpnfaa
set_option linter.unusedVariables false
set_option linter.unusedSimpArgs false
section
open Go Go.RowKit Go.Sort
attribute [local go_sem] qUpon eUpon putE slE
set_option maxHeartbeats 3200000 in
set_option maxRecDepth 100000 in
theorem p_beginN (X S : Array Value) (t c lo hi v : Int) (hX : MeX X t c lo hi S) (iv : I64 v) (W : World) : Calls Try.prog 55 #[.agg X, .int .i64 v] W (Ret (.agg (meC t 1 v v v)) W) := by
 have k1 := hide fun w => pw_ofi iv w
 clear iv
 have P2 := (Blk.new W 27 X).alloc (.cells z9m 27)
 have P4 := Blk.new (W.alloc (.cells X 27)) 27 z9m
 rw [alloc_size] at P4
 have EE := hide ((ext_alloc W (.cells X 27)).trans (ext_alloc _ (.cells z9m 27)))
 obtain ⟨W1, hW1⟩ : ∃ W1, ((W.alloc (.cells X 27)).alloc (.cells z9m 27)) = W1 := ⟨_, rfl⟩
 obtain ⟨g0, hg⟩ : ∃ g, W.heap.size = g := ⟨_, rfl⟩
 rw [hW1] at P2 P4 EE
 rw [hg] at P2 P4
 have P2_lo : W.heap.size ≤ g0 := by omega
 have P4_lo : W.heap.size ≤ g0 + 1 := by omega
 have HW := hide hW1
 have Hg := hide hg
 clear hW1 hg
 go_enter Try.func55, Try.ntmps55
 go_upto_region 1 with fail
 unfold z9m at HW
 rw [HW.out, Hg.out]
 clear HW Hg
 have P2_lt := P2.lt
 have P4_lt := P4.lt
 refine wp_ev [.q, .q, .q, .q, .q, .q, .q, .so 0] [0, 0, 0, 0, 0, 0, 0, 0] (fun R => [.pointer (some ⟨g0, 0, none⟩), .int .i64 t, .int .i64 v, .int .i64 v, .int .i64 v, .agg (wCe v), .agg (meC t 1 v v v), undef]) (fun _ => (.cells #[] 0 (0, 0))) (fun R _ => (.cells (meC t 1 v v v) 27 (0, 0))) (fun _ => g0 + 1) (XE W) (fun _ => False) (by kernel_rfl) (by kernel_rfl) (by kernel_rfl) (by kernel_rfl) rfl (fun _ => rfl) (fun _ h => h.elim) (fun _ _ h => h) (by intro c hc; simp at hc; (try subst hc); (try simp only); omega) (by intro c c' h1 h2 _; simp at h1 h2; omega) (fun R R' => ⟨fun _ => rfl, fun _ => rfl, fun _ => rfl, fun _ => rfl, fun _ => rfl, fun _ => rfl, fun _ => rfl, fun _ => rfl, trivial⟩) (fun _ _ _ _ => rfl) xe_below (EE.out.trans (ext_drew _)) ?ops8 ?end8
 case ops8 =>
   refine ⟨?_, ?_, ?_, ?_, ?_, ?_, ?_, ?_, trivial⟩
   · refine er_q ?vn1 ?hn1 ?kn1 ?gn1 ?_
     case hn1 => exact rfl
     case vn1 => exact (fun R => .pointer (some ⟨g0, 0, none⟩))
     case kn1 => exact (fun R => rfl)
     case gn1 => exact gd_none rfl
     intro R s w' hT hs hw ha
     go_simp
   · refine er_q ?vn2 ?hn2 ?kn2 ?gn2 ?_
     case hn2 => exact rfl
     case vn2 => exact (fun R => .int .i64 t)
     case kn2 => exact (fun R => rfl)
     case gn2 => exact gd_none rfl
     intro R s w' hT hs hw ha
     have cc := ((show Blk w' g0 _ X from P2.sameE hw (fun h => h) (by intro c hc; simp at hc; (try subst hc); (try simp only); omega)).cell 0).trans (hX.x0)
     go_simp
   · refine er_q ?vn3 ?hn3 ?kn3 ?gn3 ?_
     case hn3 => exact rfl
     case vn3 => exact (fun R => .int .i64 v)
     case kn3 => exact (fun R => rfl)
     case gn3 => exact gd_none rfl
     intro R s w' hT hs hw ha
     go_simp
   · refine er_q ?vn4 ?hn4 ?kn4 ?gn4 ?_
     case hn4 => exact rfl
     case vn4 => exact (fun R => .int .i64 v)
     case kn4 => exact (fun R => rfl)
     case gn4 => exact gd_none rfl
     intro R s w' hT hs hw ha
     go_simp
   · refine er_q ?vn5 ?hn5 ?kn5 ?gn5 ?_
     case hn5 => exact rfl
     case vn5 => exact (fun R => .int .i64 v)
     case kn5 => exact (fun R => rfl)
     case gn5 => exact gd_none rfl
     intro R s w' hT hs hw ha
     go_simp
   · refine er_q ?vn6 ?hn6 ?kn6 ?gn6 ?_
     case hn6 => exact rfl
     case vn6 => exact (fun R => .agg (wCe v))
     case kn6 => exact (fun R => rfl)
     case gn6 => exact gd_none rfl
     intro R s w' hT hs hw ha
     go_simp
     exact k1.out w'
   · refine er_q ?vn7 ?hn7 ?kn7 ?gn7 ?_
     case hn7 => exact rfl
     case vn7 => exact (fun R => .agg (meC t 1 v v v))
     case kn7 => exact (fun R => rfl)
     case gn7 => exact gd_none rfl
     intro R s w' hT hs hw ha
     generalize hA : putE _ _ _ _ _ _ _ = AA
     refine q_buildM (vs := #[(0, .int .i64 t), (1, .int .i64 1), (2, .int .i64 v), (3, .int .i64 v), (4, .agg (wCe v))]) rfl ?_ (b_me5w t 1 v v v)
     subst hA
     kernel_rfl
   · refine er_so (c := 0) (Ty := ?Tn8) (p := ?pn8) (x := ?xn8) (g0 + 1) ?fn8 ?un8 ?vn8 ?hn8 ?on8 ?kn8 ?ln8 ?gn8 ?dn8 ?en8 ?_
     case hn8 => exact rfl
     case on8 => exact rfl
     case fn8 => exact (fun R => (.cells (meC t 1 v v v) 27 (0, 0)))
     case un8 => exact (fun R => .pointer (some ⟨g0 + 1, 0, none⟩))
     case vn8 => exact (fun R => .agg (meC t 1 v v v))
     case kn8 => exact (fun R => rfl)
     case ln8 => exact rfl
     case gn8 => exact gd_none rfl
     case dn8 =>
       intro R
       kernel_rfl
     case en8 =>
       intro R
       kernel_rfl
     intro R s ρ w hT hs hp hx hz
     refine ⟨store_rowN (g := (g0 + 1)) rfl hp hx (hz.trans P4) iMean (rfl) ((meX_of t 1 v v v).s) ((meX_of t 1 v v v).o), fun w1 hF => ext_filled hT hF P4_lo⟩
 case end8 =>
  intro sI R G w9 hI
  have hS := hI.same
  have hTT := hI.holds
  have hz0 := EE.out.size
  replace P2 := P2.sameE hS (fun h => h) (by intro c hc; simp at hc; (try subst hc); (try simp only); omega)
  replace P4 : Blk w9 (g0 + 1) 27 (meC t 1 v v v) := hI.olds' 7 (List.mem_range.2 (show 7 < 8 by decide)) 0 rfl
  replace EE := hide (show Ext _ _ from hTT)
  clear hS hz0 hTT hI P2_lt P4_lt
  generalize hF : putE _ _ _ _ _ _ _ = FF
  have hF2 : FF = { tmps := #[.agg X, .int .i64 v, .pointer (some ⟨g0, 0, none⟩), undef, .pointer (some ⟨g0 + 1, 0, none⟩), .pointer (some ⟨g0, 0, none⟩), .int .i64 t, .int .i64 v, .int .i64 v, .int .i64 v, .agg (wCe v), .agg (meC t 1 v v v)], defers := [] } := by subst hF; kernel_rfl
  clear hF
  subst hF2
  go_wp2_with fail
  exact bodyPost_ret (results_cell_row (p := 4) (ty := 27) rfl _ _ _ 27 (meC t 1 v v v) (0, 0) _ rfl P4 uMean rfl iMean) rfl ⟨rfl, EE.out⟩
set_option maxHeartbeats 3200000 in
set_option maxRecDepth 100000 in
theorem r_vTe (X S : Array Value) (t c lo hi : Int) (hX : MeX X t c lo hi S) (sS : S.size = 5) (oS : S.all (·.oneCell') = true) (kt : Hid (∀ w, Calls Try.prog 27 #[.int .i64 t] w (Ret (.bool false) w))) (W : World) : Calls Try.prog 39 #[.agg X] W (Ret (.bool false) W) := by
 have P1 := Blk.new W 27 X
 have EE := hide (ext_alloc W (.cells X 27))
 obtain ⟨W1, hW1⟩ : ∃ W1, (W.alloc (.cells X 27)) = W1 := ⟨_, rfl⟩
 obtain ⟨g0, hg⟩ : ∃ g, W.heap.size = g := ⟨_, rfl⟩
 rw [hW1] at P1 EE
 rw [hg] at P1
 have P1_lo : W.heap.size ≤ g0 := by omega
 have HW := hide hW1
 have Hg := hide hg
 clear hW1 hg
 go_enter Try.func39, Try.ntmps39
 go_upto_region 1 with fail
 rw [HW.out, Hg.out]
 clear HW Hg
 have cq1_0 := fun d os => (((P1).ext (ext_regrown W1 d os)).cell 0).trans (hX.x0)
 refine wp_region_reads ?_
 repeat (first | go_big_quiet_step (first | with_reducible exact quiet_ret (kt.out _)) | quiet_step (first | with_reducible exact quiet_ret (kt.out _)))
 refine wpQuiet_nil ?_
 intro _ hw'
 obtain ⟨⟨dq, osq⟩, hw''⟩ := hw'
 subst hw''
 replace P1 := (P1).ext (ext_regrown W1 dq osq)
 replace EE := hide (EE.out.trans (ext_regrown W1 dq osq))
 obtain ⟨w2, hzq1⟩ : ∃ w, grow (redrawn W1 dq) osq = w := ⟨_, rfl⟩
 rw [hzq1] at EE P1 ⊢
 clear hzq1 cq1_0
 go_wp2_with fail
 go_ret
 exact ⟨rfl, EE.out⟩
set_option maxHeartbeats 3200000 in
set_option maxRecDepth 100000 in
theorem r_v0a (X : Array Value) (t c lo hi z : Int) (hX : MeX X t c lo hi (wCe z)) (kt : Hid (∀ w, Calls Try.prog 27 #[.int .i64 t] w (Ret (.bool true) w))) (ks : Hid (∀ w, Calls Try.prog 47 #[.agg (wCe z)] w (Ret (.bool true) w))) (d0 : (c == 0) = true) (d2 : (lo == 0) = false) (W : World) : Calls Try.prog 39 #[.agg X] W (Ret (.bool false) W) := by
 have P1 := Blk.new W 27 X
 have EE := hide (ext_alloc W (.cells X 27))
 obtain ⟨W1, hW1⟩ : ∃ W1, (W.alloc (.cells X 27)) = W1 := ⟨_, rfl⟩
 obtain ⟨g0, hg⟩ : ∃ g, W.heap.size = g := ⟨_, rfl⟩
 rw [hW1] at P1 EE
 rw [hg] at P1
 have P1_lo : W.heap.size ≤ g0 := by omega
 have HW := hide hW1
 have Hg := hide hg
 clear hW1 hg
 go_enter Try.func39, Try.ntmps39
 go_upto_region 1 with fail
 rw [HW.out, Hg.out]
 clear HW Hg
 have cq1_0 := fun d os => (((P1).ext (ext_regrown W1 d os)).cell 0).trans (hX.x0)
 refine wp_region_reads ?_
 repeat (first | go_big_quiet_step (first | with_reducible exact quiet_ret (kt.out _) | with_reducible exact quiet_ret (ks.out _)) | (refine wq_load (by kernel_rfl) rfl rfl (fun w hw => by obtain ⟨⟨d, os⟩, rfl⟩ := hw; exact run_load_part ((P1).ext (ext_regrown W1 d os)) _ _ uWide rfl 4 5 iWide (by rw [hX.s]; first | decide | omega) _ (hX.x4)) ?_) | quiet_step (first | with_reducible exact quiet_ret (kt.out _) | with_reducible exact quiet_ret (ks.out _)))
 refine wpQuiet_nil ?_
 intro _ hw'
 obtain ⟨⟨dq, osq⟩, hw''⟩ := hw'
 subst hw''
 replace P1 := (P1).ext (ext_regrown W1 dq osq)
 replace EE := hide (EE.out.trans (ext_regrown W1 dq osq))
 obtain ⟨w2, hzq1⟩ : ∃ w, grow (redrawn W1 dq) osq = w := ⟨_, rfl⟩
 rw [hzq1] at EE P1 ⊢
 clear hzq1 cq1_0
 go_upto_region 3 with fail
 have cq3_0 := fun d os => (((P1).ext (ext_regrown w2 d os)).cell 1).trans (hX.x1)
 refine wp_region_reads ?_
 repeat (first | go_big_quiet_step (fail) | quiet_step (fail))
 refine wpQuiet_nil ?_
 intro _ hw'
 obtain ⟨⟨dq, osq⟩, hw''⟩ := hw'
 subst hw''
 replace P1 := (P1).ext (ext_regrown w2 dq osq)
 replace EE := hide (EE.out.trans (ext_regrown w2 dq osq))
 obtain ⟨w4, hzq3⟩ : ∃ w, grow (redrawn w2 dq) osq = w := ⟨_, rfl⟩
 rw [hzq3] at EE P1 ⊢
 clear hzq3 cq3_0
 go_upto_region 4 with fail
 have cq5_0 := fun d os => (((P1).ext (ext_regrown w4 d os)).cell 2).trans (hX.x2)
 refine wp_region_reads ?_
 repeat (first | go_big_quiet_step (fail) | quiet_step (fail))
 refine wpQuiet_nil ?_
 intro _ hw'
 obtain ⟨⟨dq, osq⟩, hw''⟩ := hw'
 subst hw''
 replace P1 := (P1).ext (ext_regrown w4 dq osq)
 replace EE := hide (EE.out.trans (ext_regrown w4 dq osq))
 obtain ⟨w6, hzq5⟩ : ∃ w, grow (redrawn w4 dq) osq = w := ⟨_, rfl⟩
 rw [hzq5] at EE P1 ⊢
 clear hzq5 cq5_0
 go_wp2_with fail
 go_ret
 exact ⟨rfl, EE.out⟩
set_option maxHeartbeats 3200000 in
set_option maxRecDepth 100000 in
theorem r_v0b (X : Array Value) (t c lo hi z : Int) (hX : MeX X t c lo hi (wCe z)) (kt : Hid (∀ w, Calls Try.prog 27 #[.int .i64 t] w (Ret (.bool true) w))) (ks : Hid (∀ w, Calls Try.prog 47 #[.agg (wCe z)] w (Ret (.bool true) w))) (d0 : (c == 0) = true) (d2 : (lo == 0) = true) (d3 : (hi == 0) = false) (W : World) : Calls Try.prog 39 #[.agg X] W (Ret (.bool false) W) := by
 have P1 := Blk.new W 27 X
 have EE := hide (ext_alloc W (.cells X 27))
 obtain ⟨W1, hW1⟩ : ∃ W1, (W.alloc (.cells X 27)) = W1 := ⟨_, rfl⟩
 obtain ⟨g0, hg⟩ : ∃ g, W.heap.size = g := ⟨_, rfl⟩
 rw [hW1] at P1 EE
 rw [hg] at P1
 have P1_lo : W.heap.size ≤ g0 := by omega
 have HW := hide hW1
 have Hg := hide hg
 clear hW1 hg
 go_enter Try.func39, Try.ntmps39
 go_upto_region 1 with fail
 rw [HW.out, Hg.out]
 clear HW Hg
 have cq1_0 := fun d os => (((P1).ext (ext_regrown W1 d os)).cell 0).trans (hX.x0)
 refine wp_region_reads ?_
 repeat (first | go_big_quiet_step (first | with_reducible exact quiet_ret (kt.out _) | with_reducible exact quiet_ret (ks.out _)) | (refine wq_load (by kernel_rfl) rfl rfl (fun w hw => by obtain ⟨⟨d, os⟩, rfl⟩ := hw; exact run_load_part ((P1).ext (ext_regrown W1 d os)) _ _ uWide rfl 4 5 iWide (by rw [hX.s]; first | decide | omega) _ (hX.x4)) ?_) | quiet_step (first | with_reducible exact quiet_ret (kt.out _) | with_reducible exact quiet_ret (ks.out _)))
 refine wpQuiet_nil ?_
 intro _ hw'
 obtain ⟨⟨dq, osq⟩, hw''⟩ := hw'
 subst hw''
 replace P1 := (P1).ext (ext_regrown W1 dq osq)
 replace EE := hide (EE.out.trans (ext_regrown W1 dq osq))
 obtain ⟨w2, hzq1⟩ : ∃ w, grow (redrawn W1 dq) osq = w := ⟨_, rfl⟩
 rw [hzq1] at EE P1 ⊢
 clear hzq1 cq1_0
 go_upto_region 3 with fail
 have cq3_0 := fun d os => (((P1).ext (ext_regrown w2 d os)).cell 1).trans (hX.x1)
 refine wp_region_reads ?_
 repeat (first | go_big_quiet_step (fail) | quiet_step (fail))
 refine wpQuiet_nil ?_
 intro _ hw'
 obtain ⟨⟨dq, osq⟩, hw''⟩ := hw'
 subst hw''
 replace P1 := (P1).ext (ext_regrown w2 dq osq)
 replace EE := hide (EE.out.trans (ext_regrown w2 dq osq))
 obtain ⟨w4, hzq3⟩ : ∃ w, grow (redrawn w2 dq) osq = w := ⟨_, rfl⟩
 rw [hzq3] at EE P1 ⊢
 clear hzq3 cq3_0
 go_upto_region 4 with fail
 have cq5_0 := fun d os => (((P1).ext (ext_regrown w4 d os)).cell 2).trans (hX.x2)
 have cq5_1 := fun d os => (((P1).ext (ext_regrown w4 d os)).cell 3).trans (hX.x3)
 refine wp_region_reads ?_
 repeat (first | go_big_quiet_step (fail) | quiet_step (fail))
 refine wpQuiet_nil ?_
 intro _ hw'
 obtain ⟨⟨dq, osq⟩, hw''⟩ := hw'
 subst hw''
 replace P1 := (P1).ext (ext_regrown w4 dq osq)
 replace EE := hide (EE.out.trans (ext_regrown w4 dq osq))
 obtain ⟨w6, hzq5⟩ : ∃ w, grow (redrawn w4 dq) osq = w := ⟨_, rfl⟩
 rw [hzq5] at EE P1 ⊢
 clear hzq5 cq5_0 cq5_1
 go_wp2_with fail
 go_ret
 exact ⟨rfl, EE.out⟩
set_option maxHeartbeats 3200000 in
set_option maxRecDepth 100000 in
theorem r_v0c (X : Array Value) (t c lo hi z : Int) (hX : MeX X t c lo hi (wCe z)) (kt : Hid (∀ w, Calls Try.prog 27 #[.int .i64 t] w (Ret (.bool true) w))) (ks : Hid (∀ w, Calls Try.prog 47 #[.agg (wCe z)] w (Ret (.bool true) w))) (d0 : (c == 0) = true) (d2 : (lo == 0) = true) (d3 : (hi == 0) = true) (r1 : Int) (b : Bool) (kg : Hid (∀ w, Calls Try.prog 45 #[.agg (wCe z)] w (Ret (.int .i64 r1) w))) (d4 : (r1 == 0) = b) (W : World) : Calls Try.prog 39 #[.agg X] W (Ret (.bool b) W) := by
 have P1 := Blk.new W 27 X
 have EE := hide (ext_alloc W (.cells X 27))
 obtain ⟨W1, hW1⟩ : ∃ W1, (W.alloc (.cells X 27)) = W1 := ⟨_, rfl⟩
 obtain ⟨g0, hg⟩ : ∃ g, W.heap.size = g := ⟨_, rfl⟩
 rw [hW1] at P1 EE
 rw [hg] at P1
 have P1_lo : W.heap.size ≤ g0 := by omega
 have HW := hide hW1
 have Hg := hide hg
 clear hW1 hg
 go_enter Try.func39, Try.ntmps39
 go_upto_region 1 with fail
 rw [HW.out, Hg.out]
 clear HW Hg
 have cq1_0 := fun d os => (((P1).ext (ext_regrown W1 d os)).cell 0).trans (hX.x0)
 refine wp_region_reads ?_
 repeat (first | go_big_quiet_step (first | with_reducible exact quiet_ret (kt.out _) | with_reducible exact quiet_ret (ks.out _)) | (refine wq_load (by kernel_rfl) rfl rfl (fun w hw => by obtain ⟨⟨d, os⟩, rfl⟩ := hw; exact run_load_part ((P1).ext (ext_regrown W1 d os)) _ _ uWide rfl 4 5 iWide (by rw [hX.s]; first | decide | omega) _ (hX.x4)) ?_) | quiet_step (first | with_reducible exact quiet_ret (kt.out _) | with_reducible exact quiet_ret (ks.out _)))
 refine wpQuiet_nil ?_
 intro _ hw'
 obtain ⟨⟨dq, osq⟩, hw''⟩ := hw'
 subst hw''
 replace P1 := (P1).ext (ext_regrown W1 dq osq)
 replace EE := hide (EE.out.trans (ext_regrown W1 dq osq))
 obtain ⟨w2, hzq1⟩ : ∃ w, grow (redrawn W1 dq) osq = w := ⟨_, rfl⟩
 rw [hzq1] at EE P1 ⊢
 clear hzq1 cq1_0
 go_upto_region 3 with fail
 have cq3_0 := fun d os => (((P1).ext (ext_regrown w2 d os)).cell 1).trans (hX.x1)
 refine wp_region_reads ?_
 repeat (first | go_big_quiet_step (fail) | quiet_step (fail))
 refine wpQuiet_nil ?_
 intro _ hw'
 obtain ⟨⟨dq, osq⟩, hw''⟩ := hw'
 subst hw''
 replace P1 := (P1).ext (ext_regrown w2 dq osq)
 replace EE := hide (EE.out.trans (ext_regrown w2 dq osq))
 obtain ⟨w4, hzq3⟩ : ∃ w, grow (redrawn w2 dq) osq = w := ⟨_, rfl⟩
 rw [hzq3] at EE P1 ⊢
 clear hzq3 cq3_0
 go_upto_region 4 with fail
 have cq5_0 := fun d os => (((P1).ext (ext_regrown w4 d os)).cell 2).trans (hX.x2)
 have cq5_1 := fun d os => (((P1).ext (ext_regrown w4 d os)).cell 3).trans (hX.x3)
 refine wp_region_reads ?_
 repeat (first | go_big_quiet_step (first | with_reducible exact quiet_ret (kg.out _)) | (refine wq_load (by kernel_rfl) rfl rfl (fun w hw => by obtain ⟨⟨d, os⟩, rfl⟩ := hw; exact run_load_part ((P1).ext (ext_regrown w4 d os)) _ _ uWide rfl 4 5 iWide (by rw [hX.s]; first | decide | omega) _ (hX.x4)) ?_) | quiet_step (first | with_reducible exact quiet_ret (kg.out _)))
 refine wpQuiet_nil ?_
 intro _ hw'
 obtain ⟨⟨dq, osq⟩, hw''⟩ := hw'
 subst hw''
 replace P1 := (P1).ext (ext_regrown w4 dq osq)
 replace EE := hide (EE.out.trans (ext_regrown w4 dq osq))
 obtain ⟨w6, hzq5⟩ : ∃ w, grow (redrawn w4 dq) osq = w := ⟨_, rfl⟩
 rw [hzq5] at EE P1 ⊢
 clear hzq5 cq5_0 cq5_1
 go_wp2_with fail
 go_ret
 exact ⟨rfl, EE.out⟩
set_option maxHeartbeats 3200000 in
set_option maxRecDepth 100000 in
theorem r_v1a (X : Array Value) (t c lo hi z : Int) (hX : MeX X t c lo hi (wCe z)) (kt : Hid (∀ w, Calls Try.prog 27 #[.int .i64 t] w (Ret (.bool true) w))) (ks : Hid (∀ w, Calls Try.prog 47 #[.agg (wCe z)] w (Ret (.bool true) w))) (d0 : (c == 0) = false) (d1 : (c == 1) = true) (d2 : (lo == hi) = false) (W : World) : Calls Try.prog 39 #[.agg X] W (Ret (.bool false) W) := by
 have P1 := Blk.new W 27 X
 have EE := hide (ext_alloc W (.cells X 27))
 obtain ⟨W1, hW1⟩ : ∃ W1, (W.alloc (.cells X 27)) = W1 := ⟨_, rfl⟩
 obtain ⟨g0, hg⟩ : ∃ g, W.heap.size = g := ⟨_, rfl⟩
 rw [hW1] at P1 EE
 rw [hg] at P1
 have P1_lo : W.heap.size ≤ g0 := by omega
 have HW := hide hW1
 have Hg := hide hg
 clear hW1 hg
 go_enter Try.func39, Try.ntmps39
 go_upto_region 1 with fail
 rw [HW.out, Hg.out]
 clear HW Hg
 have cq1_0 := fun d os => (((P1).ext (ext_regrown W1 d os)).cell 0).trans (hX.x0)
 refine wp_region_reads ?_
 repeat (first | go_big_quiet_step (first | with_reducible exact quiet_ret (kt.out _) | with_reducible exact quiet_ret (ks.out _)) | (refine wq_load (by kernel_rfl) rfl rfl (fun w hw => by obtain ⟨⟨d, os⟩, rfl⟩ := hw; exact run_load_part ((P1).ext (ext_regrown W1 d os)) _ _ uWide rfl 4 5 iWide (by rw [hX.s]; first | decide | omega) _ (hX.x4)) ?_) | quiet_step (first | with_reducible exact quiet_ret (kt.out _) | with_reducible exact quiet_ret (ks.out _)))
 refine wpQuiet_nil ?_
 intro _ hw'
 obtain ⟨⟨dq, osq⟩, hw''⟩ := hw'
 subst hw''
 replace P1 := (P1).ext (ext_regrown W1 dq osq)
 replace EE := hide (EE.out.trans (ext_regrown W1 dq osq))
 obtain ⟨w2, hzq1⟩ : ∃ w, grow (redrawn W1 dq) osq = w := ⟨_, rfl⟩
 rw [hzq1] at EE P1 ⊢
 clear hzq1 cq1_0
 go_upto_region 3 with fail
 have cq3_0 := fun d os => (((P1).ext (ext_regrown w2 d os)).cell 1).trans (hX.x1)
 refine wp_region_reads ?_
 repeat (first | go_big_quiet_step (fail) | quiet_step (fail))
 refine wpQuiet_nil ?_
 intro _ hw'
 obtain ⟨⟨dq, osq⟩, hw''⟩ := hw'
 subst hw''
 replace P1 := (P1).ext (ext_regrown w2 dq osq)
 replace EE := hide (EE.out.trans (ext_regrown w2 dq osq))
 obtain ⟨w4, hzq3⟩ : ∃ w, grow (redrawn w2 dq) osq = w := ⟨_, rfl⟩
 rw [hzq3] at EE P1 ⊢
 clear hzq3 cq3_0
 go_upto_region 5 with fail
 have cq5_0 := fun d os => (((P1).ext (ext_regrown w4 d os)).cell 1).trans (hX.x1)
 refine wp_region_reads ?_
 repeat (first | go_big_quiet_step (fail) | quiet_step (fail))
 refine wpQuiet_nil ?_
 intro _ hw'
 obtain ⟨⟨dq, osq⟩, hw''⟩ := hw'
 subst hw''
 replace P1 := (P1).ext (ext_regrown w4 dq osq)
 replace EE := hide (EE.out.trans (ext_regrown w4 dq osq))
 obtain ⟨w6, hzq5⟩ : ∃ w, grow (redrawn w4 dq) osq = w := ⟨_, rfl⟩
 rw [hzq5] at EE P1 ⊢
 clear hzq5 cq5_0
 go_upto_region 6 with fail
 have cq7_0 := fun d os => (((P1).ext (ext_regrown w6 d os)).cell 2).trans (hX.x2)
 have cq7_1 := fun d os => (((P1).ext (ext_regrown w6 d os)).cell 3).trans (hX.x3)
 refine wp_region_quiet_below (by kernel_rfl) (by kernel_rfl) ?_
 repeat (first | go_big_quiet_step (fail) | quiet_step (fail))
 refine wpQuiet_nil ?_
 intro _ hw'
 obtain ⟨⟨dq, osq⟩, hw''⟩ := hw'
 subst hw''
 replace P1 := (P1).ext (ext_regrown w6 dq osq)
 replace EE := hide (EE.out.trans (ext_regrown w6 dq osq))
 obtain ⟨w8, hzq7⟩ : ∃ w, grow (redrawn w6 dq) osq = w := ⟨_, rfl⟩
 rw [hzq7] at EE P1 ⊢
 clear hzq7 cq7_0 cq7_1
 go_wp2_with fail
 go_ret
 exact ⟨rfl, EE.out⟩
set_option maxHeartbeats 3200000 in
set_option maxRecDepth 100000 in
theorem r_v1b (X : Array Value) (t c lo hi z : Int) (hX : MeX X t c lo hi (wCe z)) (kt : Hid (∀ w, Calls Try.prog 27 #[.int .i64 t] w (Ret (.bool true) w))) (ks : Hid (∀ w, Calls Try.prog 47 #[.agg (wCe z)] w (Ret (.bool true) w))) (d0 : (c == 0) = false) (d1 : (c == 1) = true) (d2 : (lo == hi) = true) (b : Bool) (ko : Hid (∀ w, Calls Try.prog 13 #[.int .i64 lo] w (Ret (.agg (wCe lo)) w))) (q0 : ∀ w, (binOp .eql 25 (.agg (wCe z)) (.agg (wCe lo))).run Try.prog w = .ok (.bool b) w) (W : World) : Calls Try.prog 39 #[.agg X] W (Ret (.bool b) W) := by
 have P1 := Blk.new W 27 X
 have EE := hide (ext_alloc W (.cells X 27))
 obtain ⟨W1, hW1⟩ : ∃ W1, (W.alloc (.cells X 27)) = W1 := ⟨_, rfl⟩
 obtain ⟨g0, hg⟩ : ∃ g, W.heap.size = g := ⟨_, rfl⟩
 rw [hW1] at P1 EE
 rw [hg] at P1
 have P1_lo : W.heap.size ≤ g0 := by omega
 have HW := hide hW1
 have Hg := hide hg
 clear hW1 hg
 go_enter Try.func39, Try.ntmps39
 go_upto_region 1 with fail
 rw [HW.out, Hg.out]
 clear HW Hg
 have cq1_0 := fun d os => (((P1).ext (ext_regrown W1 d os)).cell 0).trans (hX.x0)
 refine wp_region_reads ?_
 repeat (first | go_big_quiet_step (first | with_reducible exact quiet_ret (kt.out _) | with_reducible exact quiet_ret (ks.out _)) | (refine wq_load (by kernel_rfl) rfl rfl (fun w hw => by obtain ⟨⟨d, os⟩, rfl⟩ := hw; exact run_load_part ((P1).ext (ext_regrown W1 d os)) _ _ uWide rfl 4 5 iWide (by rw [hX.s]; first | decide | omega) _ (hX.x4)) ?_) | quiet_step (first | with_reducible exact quiet_ret (kt.out _) | with_reducible exact quiet_ret (ks.out _)))
 refine wpQuiet_nil ?_
 intro _ hw'
 obtain ⟨⟨dq, osq⟩, hw''⟩ := hw'
 subst hw''
 replace P1 := (P1).ext (ext_regrown W1 dq osq)
 replace EE := hide (EE.out.trans (ext_regrown W1 dq osq))
 obtain ⟨w2, hzq1⟩ : ∃ w, grow (redrawn W1 dq) osq = w := ⟨_, rfl⟩
 rw [hzq1] at EE P1 ⊢
 clear hzq1 cq1_0
 go_upto_region 3 with fail
 have cq3_0 := fun d os => (((P1).ext (ext_regrown w2 d os)).cell 1).trans (hX.x1)
 refine wp_region_reads ?_
 repeat (first | go_big_quiet_step (fail) | quiet_step (fail))
 refine wpQuiet_nil ?_
 intro _ hw'
 obtain ⟨⟨dq, osq⟩, hw''⟩ := hw'
 subst hw''
 replace P1 := (P1).ext (ext_regrown w2 dq osq)
 replace EE := hide (EE.out.trans (ext_regrown w2 dq osq))
 obtain ⟨w4, hzq3⟩ : ∃ w, grow (redrawn w2 dq) osq = w := ⟨_, rfl⟩
 rw [hzq3] at EE P1 ⊢
 clear hzq3 cq3_0
 go_upto_region 5 with fail
 have cq5_0 := fun d os => (((P1).ext (ext_regrown w4 d os)).cell 1).trans (hX.x1)
 refine wp_region_reads ?_
 repeat (first | go_big_quiet_step (fail) | quiet_step (fail))
 refine wpQuiet_nil ?_
 intro _ hw'
 obtain ⟨⟨dq, osq⟩, hw''⟩ := hw'
 subst hw''
 replace P1 := (P1).ext (ext_regrown w4 dq osq)
 replace EE := hide (EE.out.trans (ext_regrown w4 dq osq))
 obtain ⟨w6, hzq5⟩ : ∃ w, grow (redrawn w4 dq) osq = w := ⟨_, rfl⟩
 rw [hzq5] at EE P1 ⊢
 clear hzq5 cq5_0
 go_upto_region 6 with fail
 have cq7_0 := fun d os => (((P1).ext (ext_regrown w6 d os)).cell 2).trans (hX.x2)
 have cq7_1 := fun d os => (((P1).ext (ext_regrown w6 d os)).cell 3).trans (hX.x3)
 have cq7_2 := q0
 refine wp_region_quiet_below (by kernel_rfl) (by kernel_rfl) ?_
 repeat (first | go_big_quiet_step (first | with_reducible exact quiet_ret (ko.out _)) | (refine wq_load (by kernel_rfl) rfl rfl (fun w hw => by obtain ⟨⟨d, os⟩, rfl⟩ := hw; exact run_load_part ((P1).ext (ext_regrown w6 d os)) _ _ uWide rfl 4 5 iWide (by rw [hX.s]; first | decide | omega) _ (hX.x4)) ?_) | quiet_step (first | with_reducible exact quiet_ret (ko.out _)))
 refine wpQuiet_nil ?_
 intro _ hw'
 obtain ⟨⟨dq, osq⟩, hw''⟩ := hw'
 subst hw''
 replace P1 := (P1).ext (ext_regrown w6 dq osq)
 replace EE := hide (EE.out.trans (ext_regrown w6 dq osq))
 obtain ⟨w8, hzq7⟩ : ∃ w, grow (redrawn w6 dq) osq = w := ⟨_, rfl⟩
 rw [hzq7] at EE P1 ⊢
 clear hzq7 cq7_0 cq7_1 cq7_2
 go_wp2_with fail
 go_ret
 exact ⟨rfl, EE.out⟩
set_option maxHeartbeats 3200000 in
set_option maxRecDepth 100000 in
theorem r_v2ae (X : Array Value) (t c lo hi z : Int) (hX : MeX X t c lo hi (wCe z)) (kt : Hid (∀ w, Calls Try.prog 27 #[.int .i64 t] w (Ret (.bool true) w))) (ks : Hid (∀ w, Calls Try.prog 47 #[.agg (wCe z)] w (Ret (.bool true) w))) (d0 : (c == 0) = false) (d1 : (c == 1) = false) (d2 : decide (c < 0) = true)  (W : World) : Calls Try.prog 39 #[.agg X] W (Ret (.bool false) W) := by
 have P1 := Blk.new W 27 X
 have EE := hide (ext_alloc W (.cells X 27))
 obtain ⟨W1, hW1⟩ : ∃ W1, (W.alloc (.cells X 27)) = W1 := ⟨_, rfl⟩
 obtain ⟨g0, hg⟩ : ∃ g, W.heap.size = g := ⟨_, rfl⟩
 rw [hW1] at P1 EE
 rw [hg] at P1
 have P1_lo : W.heap.size ≤ g0 := by omega
 have HW := hide hW1
 have Hg := hide hg
 clear hW1 hg
 go_enter Try.func39, Try.ntmps39
 go_upto_region 1 with fail
 rw [HW.out, Hg.out]
 clear HW Hg
 have cq1_0 := fun d os => (((P1).ext (ext_regrown W1 d os)).cell 0).trans (hX.x0)
 refine wp_region_reads ?_
 repeat (first | go_big_quiet_step (first | with_reducible exact quiet_ret (kt.out _) | with_reducible exact quiet_ret (ks.out _)) | (refine wq_load (by kernel_rfl) rfl rfl (fun w hw => by obtain ⟨⟨d, os⟩, rfl⟩ := hw; exact run_load_part ((P1).ext (ext_regrown W1 d os)) _ _ uWide rfl 4 5 iWide (by rw [hX.s]; first | decide | omega) _ (hX.x4)) ?_) | quiet_step (first | with_reducible exact quiet_ret (kt.out _) | with_reducible exact quiet_ret (ks.out _)))
 refine wpQuiet_nil ?_
 intro _ hw'
 obtain ⟨⟨dq, osq⟩, hw''⟩ := hw'
 subst hw''
 replace P1 := (P1).ext (ext_regrown W1 dq osq)
 replace EE := hide (EE.out.trans (ext_regrown W1 dq osq))
 obtain ⟨w2, hzq1⟩ : ∃ w, grow (redrawn W1 dq) osq = w := ⟨_, rfl⟩
 rw [hzq1] at EE P1 ⊢
 clear hzq1 cq1_0
 go_upto_region 3 with fail
 have cq3_0 := fun d os => (((P1).ext (ext_regrown w2 d os)).cell 1).trans (hX.x1)
 refine wp_region_reads ?_
 repeat (first | go_big_quiet_step (fail) | quiet_step (fail))
 refine wpQuiet_nil ?_
 intro _ hw'
 obtain ⟨⟨dq, osq⟩, hw''⟩ := hw'
 subst hw''
 replace P1 := (P1).ext (ext_regrown w2 dq osq)
 replace EE := hide (EE.out.trans (ext_regrown w2 dq osq))
 obtain ⟨w4, hzq3⟩ : ∃ w, grow (redrawn w2 dq) osq = w := ⟨_, rfl⟩
 rw [hzq3] at EE P1 ⊢
 clear hzq3 cq3_0
 go_upto_region 5 with fail
 have cq5_0 := fun d os => (((P1).ext (ext_regrown w4 d os)).cell 1).trans (hX.x1)
 refine wp_region_reads ?_
 repeat (first | go_big_quiet_step (fail) | quiet_step (fail))
 refine wpQuiet_nil ?_
 intro _ hw'
 obtain ⟨⟨dq, osq⟩, hw''⟩ := hw'
 subst hw''
 replace P1 := (P1).ext (ext_regrown w4 dq osq)
 replace EE := hide (EE.out.trans (ext_regrown w4 dq osq))
 obtain ⟨w6, hzq5⟩ : ∃ w, grow (redrawn w4 dq) osq = w := ⟨_, rfl⟩
 rw [hzq5] at EE P1 ⊢
 clear hzq5 cq5_0
 go_upto_region 7 with fail
 have cq7_0 := fun d os => (((P1).ext (ext_regrown w6 d os)).cell 1).trans (hX.x1)
 refine wp_region_reads ?_
 repeat (first | go_big_quiet_step (fail) | quiet_step (fail))
 refine wpQuiet_nil ?_
 intro _ hw'
 obtain ⟨⟨dq, osq⟩, hw''⟩ := hw'
 subst hw''
 replace P1 := (P1).ext (ext_regrown w6 dq osq)
 replace EE := hide (EE.out.trans (ext_regrown w6 dq osq))
 obtain ⟨w8, hzq7⟩ : ∃ w, grow (redrawn w6 dq) osq = w := ⟨_, rfl⟩
 rw [hzq7] at EE P1 ⊢
 clear hzq7 cq7_0
 go_wp2_with fail
 go_ret
 exact ⟨rfl, EE.out⟩
set_option maxHeartbeats 3200000 in
set_option maxRecDepth 100000 in
theorem r_v2be (X : Array Value) (t c lo hi z : Int) (hX : MeX X t c lo hi (wCe z)) (kt : Hid (∀ w, Calls Try.prog 27 #[.int .i64 t] w (Ret (.bool true) w))) (ks : Hid (∀ w, Calls Try.prog 47 #[.agg (wCe z)] w (Ret (.bool true) w))) (d0 : (c == 0) = false) (d1 : (c == 1) = false) (d2 : decide (c < 0) = false) (d3 : decide (1073741824 < c) = true)  (W : World) : Calls Try.prog 39 #[.agg X] W (Ret (.bool false) W) := by
 have P1 := Blk.new W 27 X
 have EE := hide (ext_alloc W (.cells X 27))
 obtain ⟨W1, hW1⟩ : ∃ W1, (W.alloc (.cells X 27)) = W1 := ⟨_, rfl⟩
 obtain ⟨g0, hg⟩ : ∃ g, W.heap.size = g := ⟨_, rfl⟩
 rw [hW1] at P1 EE
 rw [hg] at P1
 have P1_lo : W.heap.size ≤ g0 := by omega
 have HW := hide hW1
 have Hg := hide hg
 clear hW1 hg
 go_enter Try.func39, Try.ntmps39
 go_upto_region 1 with fail
 rw [HW.out, Hg.out]
 clear HW Hg
 have cq1_0 := fun d os => (((P1).ext (ext_regrown W1 d os)).cell 0).trans (hX.x0)
 refine wp_region_reads ?_
 repeat (first | go_big_quiet_step (first | with_reducible exact quiet_ret (kt.out _) | with_reducible exact quiet_ret (ks.out _)) | (refine wq_load (by kernel_rfl) rfl rfl (fun w hw => by obtain ⟨⟨d, os⟩, rfl⟩ := hw; exact run_load_part ((P1).ext (ext_regrown W1 d os)) _ _ uWide rfl 4 5 iWide (by rw [hX.s]; first | decide | omega) _ (hX.x4)) ?_) | quiet_step (first | with_reducible exact quiet_ret (kt.out _) | with_reducible exact quiet_ret (ks.out _)))
 refine wpQuiet_nil ?_
 intro _ hw'
 obtain ⟨⟨dq, osq⟩, hw''⟩ := hw'
 subst hw''
 replace P1 := (P1).ext (ext_regrown W1 dq osq)
 replace EE := hide (EE.out.trans (ext_regrown W1 dq osq))
 obtain ⟨w2, hzq1⟩ : ∃ w, grow (redrawn W1 dq) osq = w := ⟨_, rfl⟩
 rw [hzq1] at EE P1 ⊢
 clear hzq1 cq1_0
 go_upto_region 3 with fail
 have cq3_0 := fun d os => (((P1).ext (ext_regrown w2 d os)).cell 1).trans (hX.x1)
 refine wp_region_reads ?_
 repeat (first | go_big_quiet_step (fail) | quiet_step (fail))
 refine wpQuiet_nil ?_
 intro _ hw'
 obtain ⟨⟨dq, osq⟩, hw''⟩ := hw'
 subst hw''
 replace P1 := (P1).ext (ext_regrown w2 dq osq)
 replace EE := hide (EE.out.trans (ext_regrown w2 dq osq))
 obtain ⟨w4, hzq3⟩ : ∃ w, grow (redrawn w2 dq) osq = w := ⟨_, rfl⟩
 rw [hzq3] at EE P1 ⊢
 clear hzq3 cq3_0
 go_upto_region 5 with fail
 have cq5_0 := fun d os => (((P1).ext (ext_regrown w4 d os)).cell 1).trans (hX.x1)
 refine wp_region_reads ?_
 repeat (first | go_big_quiet_step (fail) | quiet_step (fail))
 refine wpQuiet_nil ?_
 intro _ hw'
 obtain ⟨⟨dq, osq⟩, hw''⟩ := hw'
 subst hw''
 replace P1 := (P1).ext (ext_regrown w4 dq osq)
 replace EE := hide (EE.out.trans (ext_regrown w4 dq osq))
 obtain ⟨w6, hzq5⟩ : ∃ w, grow (redrawn w4 dq) osq = w := ⟨_, rfl⟩
 rw [hzq5] at EE P1 ⊢
 clear hzq5 cq5_0
 go_upto_region 7 with fail
 have cq7_0 := fun d os => (((P1).ext (ext_regrown w6 d os)).cell 1).trans (hX.x1)
 refine wp_region_reads ?_
 repeat (first | go_big_quiet_step (fail) | quiet_step (fail))
 refine wpQuiet_nil ?_
 intro _ hw'
 obtain ⟨⟨dq, osq⟩, hw''⟩ := hw'
 subst hw''
 replace P1 := (P1).ext (ext_regrown w6 dq osq)
 replace EE := hide (EE.out.trans (ext_regrown w6 dq osq))
 obtain ⟨w8, hzq7⟩ : ∃ w, grow (redrawn w6 dq) osq = w := ⟨_, rfl⟩
 rw [hzq7] at EE P1 ⊢
 clear hzq7 cq7_0
 go_wp2_with fail
 go_ret
 exact ⟨rfl, EE.out⟩
set_option maxHeartbeats 3200000 in
set_option maxRecDepth 100000 in
theorem r_v2ce (X : Array Value) (t c lo hi z : Int) (hX : MeX X t c lo hi (wCe z)) (kt : Hid (∀ w, Calls Try.prog 27 #[.int .i64 t] w (Ret (.bool true) w))) (ks : Hid (∀ w, Calls Try.prog 47 #[.agg (wCe z)] w (Ret (.bool true) w))) (d0 : (c == 0) = false) (d1 : (c == 1) = false) (d2 : decide (c < 0) = false) (d3 : decide (1073741824 < c) = false) (d4 : decide (hi < lo) = true)  (W : World) : Calls Try.prog 39 #[.agg X] W (Ret (.bool false) W) := by
 have P1 := Blk.new W 27 X
 have EE := hide (ext_alloc W (.cells X 27))
 obtain ⟨W1, hW1⟩ : ∃ W1, (W.alloc (.cells X 27)) = W1 := ⟨_, rfl⟩
 obtain ⟨g0, hg⟩ : ∃ g, W.heap.size = g := ⟨_, rfl⟩
 rw [hW1] at P1 EE
 rw [hg] at P1
 have P1_lo : W.heap.size ≤ g0 := by omega
 have HW := hide hW1
 have Hg := hide hg
 clear hW1 hg
 go_enter Try.func39, Try.ntmps39
 go_upto_region 1 with fail
 rw [HW.out, Hg.out]
 clear HW Hg
 have cq1_0 := fun d os => (((P1).ext (ext_regrown W1 d os)).cell 0).trans (hX.x0)
 refine wp_region_reads ?_
 repeat (first | go_big_quiet_step (first | with_reducible exact quiet_ret (kt.out _) | with_reducible exact quiet_ret (ks.out _)) | (refine wq_load (by kernel_rfl) rfl rfl (fun w hw => by obtain ⟨⟨d, os⟩, rfl⟩ := hw; exact run_load_part ((P1).ext (ext_regrown W1 d os)) _ _ uWide rfl 4 5 iWide (by rw [hX.s]; first | decide | omega) _ (hX.x4)) ?_) | quiet_step (first | with_reducible exact quiet_ret (kt.out _) | with_reducible exact quiet_ret (ks.out _)))
 refine wpQuiet_nil ?_
 intro _ hw'
 obtain ⟨⟨dq, osq⟩, hw''⟩ := hw'
 subst hw''
 replace P1 := (P1).ext (ext_regrown W1 dq osq)
 replace EE := hide (EE.out.trans (ext_regrown W1 dq osq))
 obtain ⟨w2, hzq1⟩ : ∃ w, grow (redrawn W1 dq) osq = w := ⟨_, rfl⟩
 rw [hzq1] at EE P1 ⊢
 clear hzq1 cq1_0
 go_upto_region 3 with fail
 have cq3_0 := fun d os => (((P1).ext (ext_regrown w2 d os)).cell 1).trans (hX.x1)
 refine wp_region_reads ?_
 repeat (first | go_big_quiet_step (fail) | quiet_step (fail))
 refine wpQuiet_nil ?_
 intro _ hw'
 obtain ⟨⟨dq, osq⟩, hw''⟩ := hw'
 subst hw''
 replace P1 := (P1).ext (ext_regrown w2 dq osq)
 replace EE := hide (EE.out.trans (ext_regrown w2 dq osq))
 obtain ⟨w4, hzq3⟩ : ∃ w, grow (redrawn w2 dq) osq = w := ⟨_, rfl⟩
 rw [hzq3] at EE P1 ⊢
 clear hzq3 cq3_0
 go_upto_region 5 with fail
 have cq5_0 := fun d os => (((P1).ext (ext_regrown w4 d os)).cell 1).trans (hX.x1)
 refine wp_region_reads ?_
 repeat (first | go_big_quiet_step (fail) | quiet_step (fail))
 refine wpQuiet_nil ?_
 intro _ hw'
 obtain ⟨⟨dq, osq⟩, hw''⟩ := hw'
 subst hw''
 replace P1 := (P1).ext (ext_regrown w4 dq osq)
 replace EE := hide (EE.out.trans (ext_regrown w4 dq osq))
 obtain ⟨w6, hzq5⟩ : ∃ w, grow (redrawn w4 dq) osq = w := ⟨_, rfl⟩
 rw [hzq5] at EE P1 ⊢
 clear hzq5 cq5_0
 go_upto_region 7 with fail
 have cq7_0 := fun d os => (((P1).ext (ext_regrown w6 d os)).cell 1).trans (hX.x1)
 have cq7_1 := fun d os => (((P1).ext (ext_regrown w6 d os)).cell 2).trans (hX.x2)
 have cq7_2 := fun d os => (((P1).ext (ext_regrown w6 d os)).cell 3).trans (hX.x3)
 refine wp_region_reads ?_
 repeat (first | go_big_quiet_step (fail) | quiet_step (fail))
 refine wpQuiet_nil ?_
 intro _ hw'
 obtain ⟨⟨dq, osq⟩, hw''⟩ := hw'
 subst hw''
 replace P1 := (P1).ext (ext_regrown w6 dq osq)
 replace EE := hide (EE.out.trans (ext_regrown w6 dq osq))
 obtain ⟨w8, hzq7⟩ : ∃ w, grow (redrawn w6 dq) osq = w := ⟨_, rfl⟩
 rw [hzq7] at EE P1 ⊢
 clear hzq7 cq7_0 cq7_1 cq7_2
 go_wp2_with fail
 go_ret
 exact ⟨rfl, EE.out⟩
set_option maxHeartbeats 3200000 in
set_option maxRecDepth 100000 in
theorem r_v2de (X : Array Value) (t c lo hi z : Int) (hX : MeX X t c lo hi (wCe z)) (kt : Hid (∀ w, Calls Try.prog 27 #[.int .i64 t] w (Ret (.bool true) w))) (ks : Hid (∀ w, Calls Try.prog 47 #[.agg (wCe z)] w (Ret (.bool true) w))) (d0 : (c == 0) = false) (d1 : (c == 1) = false) (d2 : decide (c < 0) = false) (d3 : decide (1073741824 < c) = false) (d4 : decide (hi < lo) = false) (c1 x y r1 r2 : Int) (wr : IntKind.i64.wrap (c - 1) = c1) (k1 : Hid (∀ w, Calls Try.prog 59 #[.int .i64 c1, .int .i64 lo, .int .i64 hi] w (Ret (.agg (wCe x)) w))) (k3 : Hid (∀ w, Calls Try.prog 58 #[.agg (wCe z), .agg (wCe x)] w (Ret (.int .i64 r1) w))) (d5 : decide (r1 < 0) = true) (W : World) : Calls Try.prog 39 #[.agg X] W (Ret (.bool false) W) := by
 have P1 := Blk.new W 27 X
 have EE := hide (ext_alloc W (.cells X 27))
 obtain ⟨W1, hW1⟩ : ∃ W1, (W.alloc (.cells X 27)) = W1 := ⟨_, rfl⟩
 obtain ⟨g0, hg⟩ : ∃ g, W.heap.size = g := ⟨_, rfl⟩
 rw [hW1] at P1 EE
 rw [hg] at P1
 have P1_lo : W.heap.size ≤ g0 := by omega
 have HW := hide hW1
 have Hg := hide hg
 clear hW1 hg
 go_enter Try.func39, Try.ntmps39
 go_upto_region 1 with fail
 rw [HW.out, Hg.out]
 clear HW Hg
 have cq1_0 := fun d os => (((P1).ext (ext_regrown W1 d os)).cell 0).trans (hX.x0)
 refine wp_region_reads ?_
 repeat (first | go_big_quiet_step (first | with_reducible exact quiet_ret (kt.out _) | with_reducible exact quiet_ret (ks.out _)) | (refine wq_load (by kernel_rfl) rfl rfl (fun w hw => by obtain ⟨⟨d, os⟩, rfl⟩ := hw; exact run_load_part ((P1).ext (ext_regrown W1 d os)) _ _ uWide rfl 4 5 iWide (by rw [hX.s]; first | decide | omega) _ (hX.x4)) ?_) | quiet_step (first | with_reducible exact quiet_ret (kt.out _) | with_reducible exact quiet_ret (ks.out _)))
 refine wpQuiet_nil ?_
 intro _ hw'
 obtain ⟨⟨dq, osq⟩, hw''⟩ := hw'
 subst hw''
 replace P1 := (P1).ext (ext_regrown W1 dq osq)
 replace EE := hide (EE.out.trans (ext_regrown W1 dq osq))
 obtain ⟨w2, hzq1⟩ : ∃ w, grow (redrawn W1 dq) osq = w := ⟨_, rfl⟩
 rw [hzq1] at EE P1 ⊢
 clear hzq1 cq1_0
 go_upto_region 3 with fail
 have cq3_0 := fun d os => (((P1).ext (ext_regrown w2 d os)).cell 1).trans (hX.x1)
 refine wp_region_reads ?_
 repeat (first | go_big_quiet_step (fail) | quiet_step (fail))
 refine wpQuiet_nil ?_
 intro _ hw'
 obtain ⟨⟨dq, osq⟩, hw''⟩ := hw'
 subst hw''
 replace P1 := (P1).ext (ext_regrown w2 dq osq)
 replace EE := hide (EE.out.trans (ext_regrown w2 dq osq))
 obtain ⟨w4, hzq3⟩ : ∃ w, grow (redrawn w2 dq) osq = w := ⟨_, rfl⟩
 rw [hzq3] at EE P1 ⊢
 clear hzq3 cq3_0
 go_upto_region 5 with fail
 have cq5_0 := fun d os => (((P1).ext (ext_regrown w4 d os)).cell 1).trans (hX.x1)
 refine wp_region_reads ?_
 repeat (first | go_big_quiet_step (fail) | quiet_step (fail))
 refine wpQuiet_nil ?_
 intro _ hw'
 obtain ⟨⟨dq, osq⟩, hw''⟩ := hw'
 subst hw''
 replace P1 := (P1).ext (ext_regrown w4 dq osq)
 replace EE := hide (EE.out.trans (ext_regrown w4 dq osq))
 obtain ⟨w6, hzq5⟩ : ∃ w, grow (redrawn w4 dq) osq = w := ⟨_, rfl⟩
 rw [hzq5] at EE P1 ⊢
 clear hzq5 cq5_0
 go_upto_region 7 with fail
 have cq7_0 := fun d os => (((P1).ext (ext_regrown w6 d os)).cell 1).trans (hX.x1)
 have cq7_1 := fun d os => (((P1).ext (ext_regrown w6 d os)).cell 2).trans (hX.x2)
 have cq7_2 := fun d os => (((P1).ext (ext_regrown w6 d os)).cell 3).trans (hX.x3)
 refine wp_region_reads ?_
 repeat (first | go_big_quiet_step (fail) | quiet_step (fail))
 refine wpQuiet_nil ?_
 intro _ hw'
 obtain ⟨⟨dq, osq⟩, hw''⟩ := hw'
 subst hw''
 replace P1 := (P1).ext (ext_regrown w6 dq osq)
 replace EE := hide (EE.out.trans (ext_regrown w6 dq osq))
 obtain ⟨w8, hzq7⟩ : ∃ w, grow (redrawn w6 dq) osq = w := ⟨_, rfl⟩
 rw [hzq7] at EE P1 ⊢
 clear hzq7 cq7_0 cq7_1 cq7_2
 go_upto_region 9 with fail
 have cq9_0 := fun d os => (((P1).ext (ext_regrown w8 d os)).cell 1).trans (hX.x1)
 have cq9_1 := fun d os => (((P1).ext (ext_regrown w8 d os)).cell 2).trans (hX.x2)
 have cq9_2 := fun d os => (((P1).ext (ext_regrown w8 d os)).cell 3).trans (hX.x3)
 refine wp_region_quiet_below (by kernel_rfl) (by kernel_rfl) ?_
 repeat (first | go_big_quiet_step (first | with_reducible exact quiet_ret (k1.out _) | with_reducible exact quiet_ret (k3.out _)) | (refine wq_load (by kernel_rfl) rfl rfl (fun w hw => by obtain ⟨⟨d, os⟩, rfl⟩ := hw; exact run_load_part ((P1).ext (ext_regrown w8 d os)) _ _ uWide rfl 4 5 iWide (by rw [hX.s]; first | decide | omega) _ (hX.x4)) ?_) | quiet_step (first | with_reducible exact quiet_ret (k1.out _) | with_reducible exact quiet_ret (k3.out _)))
 refine wpQuiet_nil ?_
 intro _ hw'
 obtain ⟨⟨dq, osq⟩, hw''⟩ := hw'
 subst hw''
 replace P1 := (P1).ext (ext_regrown w8 dq osq)
 replace EE := hide (EE.out.trans (ext_regrown w8 dq osq))
 obtain ⟨w10, hzq9⟩ : ∃ w, grow (redrawn w8 dq) osq = w := ⟨_, rfl⟩
 rw [hzq9] at EE P1 ⊢
 clear hzq9 cq9_0 cq9_1 cq9_2
 go_wp2_with fail
 go_ret
 exact ⟨rfl, EE.out⟩
set_option maxHeartbeats 3200000 in
set_option maxRecDepth 100000 in
theorem r_v2ee (X : Array Value) (t c lo hi z : Int) (hX : MeX X t c lo hi (wCe z)) (kt : Hid (∀ w, Calls Try.prog 27 #[.int .i64 t] w (Ret (.bool true) w))) (ks : Hid (∀ w, Calls Try.prog 47 #[.agg (wCe z)] w (Ret (.bool true) w))) (d0 : (c == 0) = false) (d1 : (c == 1) = false) (d2 : decide (c < 0) = false) (d3 : decide (1073741824 < c) = false) (d4 : decide (hi < lo) = false) (c1 x y r1 r2 : Int) (wr : IntKind.i64.wrap (c - 1) = c1) (k1 : Hid (∀ w, Calls Try.prog 59 #[.int .i64 c1, .int .i64 lo, .int .i64 hi] w (Ret (.agg (wCe x)) w))) (k3 : Hid (∀ w, Calls Try.prog 58 #[.agg (wCe z), .agg (wCe x)] w (Ret (.int .i64 r1) w))) (d5 : decide (r1 < 0) = false) (k2 : Hid (∀ w, Calls Try.prog 59 #[.int .i64 c1, .int .i64 hi, .int .i64 lo] w (Ret (.agg (wCe y)) w))) (k4 : Hid (∀ w, Calls Try.prog 58 #[.agg (wCe z), .agg (wCe y)] w (Ret (.int .i64 r2) w))) (d6 : decide (0 < r2) = true) (W : World) : Calls Try.prog 39 #[.agg X] W (Ret (.bool false) W) := by
 have P1 := Blk.new W 27 X
 have EE := hide (ext_alloc W (.cells X 27))
 obtain ⟨W1, hW1⟩ : ∃ W1, (W.alloc (.cells X 27)) = W1 := ⟨_, rfl⟩
 obtain ⟨g0, hg⟩ : ∃ g, W.heap.size = g := ⟨_, rfl⟩
 rw [hW1] at P1 EE
 rw [hg] at P1
 have P1_lo : W.heap.size ≤ g0 := by omega
 have HW := hide hW1
 have Hg := hide hg
 clear hW1 hg
 go_enter Try.func39, Try.ntmps39
 go_upto_region 1 with fail
 rw [HW.out, Hg.out]
 clear HW Hg
 have cq1_0 := fun d os => (((P1).ext (ext_regrown W1 d os)).cell 0).trans (hX.x0)
 refine wp_region_reads ?_
 repeat (first | go_big_quiet_step (first | with_reducible exact quiet_ret (kt.out _) | with_reducible exact quiet_ret (ks.out _)) | (refine wq_load (by kernel_rfl) rfl rfl (fun w hw => by obtain ⟨⟨d, os⟩, rfl⟩ := hw; exact run_load_part ((P1).ext (ext_regrown W1 d os)) _ _ uWide rfl 4 5 iWide (by rw [hX.s]; first | decide | omega) _ (hX.x4)) ?_) | quiet_step (first | with_reducible exact quiet_ret (kt.out _) | with_reducible exact quiet_ret (ks.out _)))
 refine wpQuiet_nil ?_
 intro _ hw'
 obtain ⟨⟨dq, osq⟩, hw''⟩ := hw'
 subst hw''
 replace P1 := (P1).ext (ext_regrown W1 dq osq)
 replace EE := hide (EE.out.trans (ext_regrown W1 dq osq))
 obtain ⟨w2, hzq1⟩ : ∃ w, grow (redrawn W1 dq) osq = w := ⟨_, rfl⟩
 rw [hzq1] at EE P1 ⊢
 clear hzq1 cq1_0
 go_upto_region 3 with fail
 have cq3_0 := fun d os => (((P1).ext (ext_regrown w2 d os)).cell 1).trans (hX.x1)
 refine wp_region_reads ?_
 repeat (first | go_big_quiet_step (fail) | quiet_step (fail))
 refine wpQuiet_nil ?_
 intro _ hw'
 obtain ⟨⟨dq, osq⟩, hw''⟩ := hw'
 subst hw''
 replace P1 := (P1).ext (ext_regrown w2 dq osq)
 replace EE := hide (EE.out.trans (ext_regrown w2 dq osq))
 obtain ⟨w4, hzq3⟩ : ∃ w, grow (redrawn w2 dq) osq = w := ⟨_, rfl⟩
 rw [hzq3] at EE P1 ⊢
 clear hzq3 cq3_0
 go_upto_region 5 with fail
 have cq5_0 := fun d os => (((P1).ext (ext_regrown w4 d os)).cell 1).trans (hX.x1)
 refine wp_region_reads ?_
 repeat (first | go_big_quiet_step (fail) | quiet_step (fail))
 refine wpQuiet_nil ?_
 intro _ hw'
 obtain ⟨⟨dq, osq⟩, hw''⟩ := hw'
 subst hw''
 replace P1 := (P1).ext (ext_regrown w4 dq osq)
 replace EE := hide (EE.out.trans (ext_regrown w4 dq osq))
 obtain ⟨w6, hzq5⟩ : ∃ w, grow (redrawn w4 dq) osq = w := ⟨_, rfl⟩
 rw [hzq5] at EE P1 ⊢
 clear hzq5 cq5_0
 go_upto_region 7 with fail
 have cq7_0 := fun d os => (((P1).ext (ext_regrown w6 d os)).cell 1).trans (hX.x1)
 have cq7_1 := fun d os => (((P1).ext (ext_regrown w6 d os)).cell 2).trans (hX.x2)
 have cq7_2 := fun d os => (((P1).ext (ext_regrown w6 d os)).cell 3).trans (hX.x3)
 refine wp_region_reads ?_
 repeat (first | go_big_quiet_step (fail) | quiet_step (fail))
 refine wpQuiet_nil ?_
 intro _ hw'
 obtain ⟨⟨dq, osq⟩, hw''⟩ := hw'
 subst hw''
 replace P1 := (P1).ext (ext_regrown w6 dq osq)
 replace EE := hide (EE.out.trans (ext_regrown w6 dq osq))
 obtain ⟨w8, hzq7⟩ : ∃ w, grow (redrawn w6 dq) osq = w := ⟨_, rfl⟩
 rw [hzq7] at EE P1 ⊢
 clear hzq7 cq7_0 cq7_1 cq7_2
 go_upto_region 9 with fail
 have cq9_0 := fun d os => (((P1).ext (ext_regrown w8 d os)).cell 1).trans (hX.x1)
 have cq9_1 := fun d os => (((P1).ext (ext_regrown w8 d os)).cell 2).trans (hX.x2)
 have cq9_2 := fun d os => (((P1).ext (ext_regrown w8 d os)).cell 3).trans (hX.x3)
 refine wp_region_quiet_below (by kernel_rfl) (by kernel_rfl) ?_
 repeat (first | go_big_quiet_step (first | with_reducible exact quiet_ret (k1.out _) | with_reducible exact quiet_ret (k3.out _) | with_reducible exact quiet_ret (k2.out _) | with_reducible exact quiet_ret (k4.out _)) | (refine wq_load (by kernel_rfl) rfl rfl (fun w hw => by obtain ⟨⟨d, os⟩, rfl⟩ := hw; exact run_load_part ((P1).ext (ext_regrown w8 d os)) _ _ uWide rfl 4 5 iWide (by rw [hX.s]; first | decide | omega) _ (hX.x4)) ?_) | quiet_step (first | with_reducible exact quiet_ret (k1.out _) | with_reducible exact quiet_ret (k3.out _) | with_reducible exact quiet_ret (k2.out _) | with_reducible exact quiet_ret (k4.out _)))
 refine wpQuiet_nil ?_
 intro _ hw'
 obtain ⟨⟨dq, osq⟩, hw''⟩ := hw'
 subst hw''
 replace P1 := (P1).ext (ext_regrown w8 dq osq)
 replace EE := hide (EE.out.trans (ext_regrown w8 dq osq))
 obtain ⟨w10, hzq9⟩ : ∃ w, grow (redrawn w8 dq) osq = w := ⟨_, rfl⟩
 rw [hzq9] at EE P1 ⊢
 clear hzq9 cq9_0 cq9_1 cq9_2
 go_wp2_with fail
 go_ret
 exact ⟨rfl, EE.out⟩
set_option maxHeartbeats 3200000 in
set_option maxRecDepth 100000 in
theorem r_v2fe (X : Array Value) (t c lo hi z : Int) (hX : MeX X t c lo hi (wCe z)) (kt : Hid (∀ w, Calls Try.prog 27 #[.int .i64 t] w (Ret (.bool true) w))) (ks : Hid (∀ w, Calls Try.prog 47 #[.agg (wCe z)] w (Ret (.bool true) w))) (d0 : (c == 0) = false) (d1 : (c == 1) = false) (d2 : decide (c < 0) = false) (d3 : decide (1073741824 < c) = false) (d4 : decide (hi < lo) = false) (c1 x y r1 r2 : Int) (wr : IntKind.i64.wrap (c - 1) = c1) (k1 : Hid (∀ w, Calls Try.prog 59 #[.int .i64 c1, .int .i64 lo, .int .i64 hi] w (Ret (.agg (wCe x)) w))) (k3 : Hid (∀ w, Calls Try.prog 58 #[.agg (wCe z), .agg (wCe x)] w (Ret (.int .i64 r1) w))) (d5 : decide (r1 < 0) = false) (k2 : Hid (∀ w, Calls Try.prog 59 #[.int .i64 c1, .int .i64 hi, .int .i64 lo] w (Ret (.agg (wCe y)) w))) (k4 : Hid (∀ w, Calls Try.prog 58 #[.agg (wCe z), .agg (wCe y)] w (Ret (.int .i64 r2) w))) (d6 : decide (0 < r2) = false) (q : Int) (km : Hid (∀ w, Calls Try.prog 53 #[.agg X] w (Ret (.tuple #[.int .i64 q, .bool true]) w))) (k5 : Hid (∀ w, Calls Try.prog 21 #[.int .i64 q, .int .i64 lo, .int .i64 t] w (Ret (.bool false) w)))  (W : World) : Calls Try.prog 39 #[.agg X] W (Ret (.bool false) W) := by
 have P1 := Blk.new W 27 X
 have EE := hide (ext_alloc W (.cells X 27))
 obtain ⟨W1, hW1⟩ : ∃ W1, (W.alloc (.cells X 27)) = W1 := ⟨_, rfl⟩
 obtain ⟨g0, hg⟩ : ∃ g, W.heap.size = g := ⟨_, rfl⟩
 rw [hW1] at P1 EE
 rw [hg] at P1
 have P1_lo : W.heap.size ≤ g0 := by omega
 have HW := hide hW1
 have Hg := hide hg
 clear hW1 hg
 go_enter Try.func39, Try.ntmps39
 go_upto_region 1 with fail
 rw [HW.out, Hg.out]
 clear HW Hg
 have cq1_0 := fun d os => (((P1).ext (ext_regrown W1 d os)).cell 0).trans (hX.x0)
 refine wp_region_reads ?_
 repeat (first | go_big_quiet_step (first | with_reducible exact quiet_ret (kt.out _) | with_reducible exact quiet_ret (ks.out _)) | (refine wq_load (by kernel_rfl) rfl rfl (fun w hw => by obtain ⟨⟨d, os⟩, rfl⟩ := hw; exact run_load_part ((P1).ext (ext_regrown W1 d os)) _ _ uWide rfl 4 5 iWide (by rw [hX.s]; first | decide | omega) _ (hX.x4)) ?_) | quiet_step (first | with_reducible exact quiet_ret (kt.out _) | with_reducible exact quiet_ret (ks.out _)))
 refine wpQuiet_nil ?_
 intro _ hw'
 obtain ⟨⟨dq, osq⟩, hw''⟩ := hw'
 subst hw''
 replace P1 := (P1).ext (ext_regrown W1 dq osq)
 replace EE := hide (EE.out.trans (ext_regrown W1 dq osq))
 obtain ⟨w2, hzq1⟩ : ∃ w, grow (redrawn W1 dq) osq = w := ⟨_, rfl⟩
 rw [hzq1] at EE P1 ⊢
 clear hzq1 cq1_0
 go_upto_region 3 with fail
 have cq3_0 := fun d os => (((P1).ext (ext_regrown w2 d os)).cell 1).trans (hX.x1)
 refine wp_region_reads ?_
 repeat (first | go_big_quiet_step (fail) | quiet_step (fail))
 refine wpQuiet_nil ?_
 intro _ hw'
 obtain ⟨⟨dq, osq⟩, hw''⟩ := hw'
 subst hw''
 replace P1 := (P1).ext (ext_regrown w2 dq osq)
 replace EE := hide (EE.out.trans (ext_regrown w2 dq osq))
 obtain ⟨w4, hzq3⟩ : ∃ w, grow (redrawn w2 dq) osq = w := ⟨_, rfl⟩
 rw [hzq3] at EE P1 ⊢
 clear hzq3 cq3_0
 go_upto_region 5 with fail
 have cq5_0 := fun d os => (((P1).ext (ext_regrown w4 d os)).cell 1).trans (hX.x1)
 refine wp_region_reads ?_
 repeat (first | go_big_quiet_step (fail) | quiet_step (fail))
 refine wpQuiet_nil ?_
 intro _ hw'
 obtain ⟨⟨dq, osq⟩, hw''⟩ := hw'
 subst hw''
 replace P1 := (P1).ext (ext_regrown w4 dq osq)
 replace EE := hide (EE.out.trans (ext_regrown w4 dq osq))
 obtain ⟨w6, hzq5⟩ : ∃ w, grow (redrawn w4 dq) osq = w := ⟨_, rfl⟩
 rw [hzq5] at EE P1 ⊢
 clear hzq5 cq5_0
 go_upto_region 7 with fail
 have cq7_0 := fun d os => (((P1).ext (ext_regrown w6 d os)).cell 1).trans (hX.x1)
 have cq7_1 := fun d os => (((P1).ext (ext_regrown w6 d os)).cell 2).trans (hX.x2)
 have cq7_2 := fun d os => (((P1).ext (ext_regrown w6 d os)).cell 3).trans (hX.x3)
 refine wp_region_reads ?_
 repeat (first | go_big_quiet_step (fail) | quiet_step (fail))
 refine wpQuiet_nil ?_
 intro _ hw'
 obtain ⟨⟨dq, osq⟩, hw''⟩ := hw'
 subst hw''
 replace P1 := (P1).ext (ext_regrown w6 dq osq)
 replace EE := hide (EE.out.trans (ext_regrown w6 dq osq))
 obtain ⟨w8, hzq7⟩ : ∃ w, grow (redrawn w6 dq) osq = w := ⟨_, rfl⟩
 rw [hzq7] at EE P1 ⊢
 clear hzq7 cq7_0 cq7_1 cq7_2
 go_upto_region 9 with fail
 have cq9_0 := fun d os => (((P1).ext (ext_regrown w8 d os)).cell 1).trans (hX.x1)
 have cq9_1 := fun d os => (((P1).ext (ext_regrown w8 d os)).cell 2).trans (hX.x2)
 have cq9_2 := fun d os => (((P1).ext (ext_regrown w8 d os)).cell 3).trans (hX.x3)
 refine wp_region_quiet_below (by kernel_rfl) (by kernel_rfl) ?_
 repeat (first | go_big_quiet_step (first | with_reducible exact quiet_ret (k1.out _) | with_reducible exact quiet_ret (k3.out _) | with_reducible exact quiet_ret (k2.out _) | with_reducible exact quiet_ret (k4.out _)) | (refine wq_load (by kernel_rfl) rfl rfl (fun w hw => by obtain ⟨⟨d, os⟩, rfl⟩ := hw; exact run_load_part ((P1).ext (ext_regrown w8 d os)) _ _ uWide rfl 4 5 iWide (by rw [hX.s]; first | decide | omega) _ (hX.x4)) ?_) | quiet_step (first | with_reducible exact quiet_ret (k1.out _) | with_reducible exact quiet_ret (k3.out _) | with_reducible exact quiet_ret (k2.out _) | with_reducible exact quiet_ret (k4.out _)))
 refine wpQuiet_nil ?_
 intro _ hw'
 obtain ⟨⟨dq, osq⟩, hw''⟩ := hw'
 subst hw''
 replace P1 := (P1).ext (ext_regrown w8 dq osq)
 replace EE := hide (EE.out.trans (ext_regrown w8 dq osq))
 obtain ⟨w10, hzq9⟩ : ∃ w, grow (redrawn w8 dq) osq = w := ⟨_, rfl⟩
 rw [hzq9] at EE P1 ⊢
 clear hzq9 cq9_0 cq9_1 cq9_2
 go_upto_region 11 with fail
 refine wp_region_reads ?_
 repeat (first | go_big_quiet_step (first | with_reducible exact quiet_ret (km.out _)) | (refine wq_load (by kernel_rfl) rfl rfl (fun w hw => by obtain ⟨⟨d, os⟩, rfl⟩ := hw; exact ld_all ((P1).ext (ext_regrown w10 d os)) uMean rfl iMean hX.s) ?_) | quiet_step (first | with_reducible exact quiet_ret (km.out _)))
 refine wpQuiet_nil ?_
 intro _ hw'
 obtain ⟨⟨dq, osq⟩, hw''⟩ := hw'
 subst hw''
 replace P1 := (P1).ext (ext_regrown w10 dq osq)
 replace EE := hide (EE.out.trans (ext_regrown w10 dq osq))
 obtain ⟨w12, hzq11⟩ : ∃ w, grow (redrawn w10 dq) osq = w := ⟨_, rfl⟩
 rw [hzq11] at EE P1 ⊢
 clear hzq11
 go_upto_region 12 with fail
 have cq13_0 := fun d os => (((P1).ext (ext_regrown w12 d os)).cell 2).trans (hX.x2)
 have cq13_1 := fun d os => (((P1).ext (ext_regrown w12 d os)).cell 0).trans (hX.x0)
 refine wp_region_reads ?_
 repeat (first | go_big_quiet_step (first | with_reducible exact quiet_ret (k5.out _)) | quiet_step (first | with_reducible exact quiet_ret (k5.out _)))
 refine wpQuiet_nil ?_
 intro _ hw'
 obtain ⟨⟨dq, osq⟩, hw''⟩ := hw'
 subst hw''
 replace P1 := (P1).ext (ext_regrown w12 dq osq)
 replace EE := hide (EE.out.trans (ext_regrown w12 dq osq))
 obtain ⟨w14, hzq13⟩ : ∃ w, grow (redrawn w12 dq) osq = w := ⟨_, rfl⟩
 rw [hzq13] at EE P1 ⊢
 clear hzq13 cq13_0 cq13_1
 go_wp2_with fail
 go_ret
 exact ⟨rfl, EE.out⟩
set_option maxHeartbeats 3200000 in
set_option maxRecDepth 100000 in
theorem r_v2g (X : Array Value) (t c lo hi z : Int) (hX : MeX X t c lo hi (wCe z)) (kt : Hid (∀ w, Calls Try.prog 27 #[.int .i64 t] w (Ret (.bool true) w))) (ks : Hid (∀ w, Calls Try.prog 47 #[.agg (wCe z)] w (Ret (.bool true) w))) (d0 : (c == 0) = false) (d1 : (c == 1) = false) (d2 : decide (c < 0) = false) (d3 : decide (1073741824 < c) = false) (d4 : decide (hi < lo) = false) (c1 x y r1 r2 : Int) (wr : IntKind.i64.wrap (c - 1) = c1) (k1 : Hid (∀ w, Calls Try.prog 59 #[.int .i64 c1, .int .i64 lo, .int .i64 hi] w (Ret (.agg (wCe x)) w))) (k3 : Hid (∀ w, Calls Try.prog 58 #[.agg (wCe z), .agg (wCe x)] w (Ret (.int .i64 r1) w))) (d5 : decide (r1 < 0) = false) (k2 : Hid (∀ w, Calls Try.prog 59 #[.int .i64 c1, .int .i64 hi, .int .i64 lo] w (Ret (.agg (wCe y)) w))) (k4 : Hid (∀ w, Calls Try.prog 58 #[.agg (wCe z), .agg (wCe y)] w (Ret (.int .i64 r2) w))) (d6 : decide (0 < r2) = false) (q : Int) (km : Hid (∀ w, Calls Try.prog 53 #[.agg X] w (Ret (.tuple #[.int .i64 q, .bool true]) w))) (k5 : Hid (∀ w, Calls Try.prog 21 #[.int .i64 q, .int .i64 lo, .int .i64 t] w (Ret (.bool true) w))) (b : Bool) (k6 : Hid (∀ w, Calls Try.prog 21 #[.int .i64 q, .int .i64 hi, .int .i64 t] w (Ret (.bool b) w))) (W : World) : Calls Try.prog 39 #[.agg X] W (Ret (.bool b) W) := by
 have P1 := Blk.new W 27 X
 have EE := hide (ext_alloc W (.cells X 27))
 obtain ⟨W1, hW1⟩ : ∃ W1, (W.alloc (.cells X 27)) = W1 := ⟨_, rfl⟩
 obtain ⟨g0, hg⟩ : ∃ g, W.heap.size = g := ⟨_, rfl⟩
 rw [hW1] at P1 EE
 rw [hg] at P1
 have P1_lo : W.heap.size ≤ g0 := by omega
 have HW := hide hW1
 have Hg := hide hg
 clear hW1 hg
 go_enter Try.func39, Try.ntmps39
 go_upto_region 1 with fail
 rw [HW.out, Hg.out]
 clear HW Hg
 have cq1_0 := fun d os => (((P1).ext (ext_regrown W1 d os)).cell 0).trans (hX.x0)
 refine wp_region_reads ?_
 repeat (first | go_big_quiet_step (first | with_reducible exact quiet_ret (kt.out _) | with_reducible exact quiet_ret (ks.out _)) | (refine wq_load (by kernel_rfl) rfl rfl (fun w hw => by obtain ⟨⟨d, os⟩, rfl⟩ := hw; exact run_load_part ((P1).ext (ext_regrown W1 d os)) _ _ uWide rfl 4 5 iWide (by rw [hX.s]; first | decide | omega) _ (hX.x4)) ?_) | quiet_step (first | with_reducible exact quiet_ret (kt.out _) | with_reducible exact quiet_ret (ks.out _)))
 refine wpQuiet_nil ?_
 intro _ hw'
 obtain ⟨⟨dq, osq⟩, hw''⟩ := hw'
 subst hw''
 replace P1 := (P1).ext (ext_regrown W1 dq osq)
 replace EE := hide (EE.out.trans (ext_regrown W1 dq osq))
 obtain ⟨w2, hzq1⟩ : ∃ w, grow (redrawn W1 dq) osq = w := ⟨_, rfl⟩
 rw [hzq1] at EE P1 ⊢
 clear hzq1 cq1_0
 go_upto_region 3 with fail
 have cq3_0 := fun d os => (((P1).ext (ext_regrown w2 d os)).cell 1).trans (hX.x1)
 refine wp_region_reads ?_
 repeat (first | go_big_quiet_step (fail) | quiet_step (fail))
 refine wpQuiet_nil ?_
 intro _ hw'
 obtain ⟨⟨dq, osq⟩, hw''⟩ := hw'
 subst hw''
 replace P1 := (P1).ext (ext_regrown w2 dq osq)
 replace EE := hide (EE.out.trans (ext_regrown w2 dq osq))
 obtain ⟨w4, hzq3⟩ : ∃ w, grow (redrawn w2 dq) osq = w := ⟨_, rfl⟩
 rw [hzq3] at EE P1 ⊢
 clear hzq3 cq3_0
 go_upto_region 5 with fail
 have cq5_0 := fun d os => (((P1).ext (ext_regrown w4 d os)).cell 1).trans (hX.x1)
 refine wp_region_reads ?_
 repeat (first | go_big_quiet_step (fail) | quiet_step (fail))
 refine wpQuiet_nil ?_
 intro _ hw'
 obtain ⟨⟨dq, osq⟩, hw''⟩ := hw'
 subst hw''
 replace P1 := (P1).ext (ext_regrown w4 dq osq)
 replace EE := hide (EE.out.trans (ext_regrown w4 dq osq))
 obtain ⟨w6, hzq5⟩ : ∃ w, grow (redrawn w4 dq) osq = w := ⟨_, rfl⟩
 rw [hzq5] at EE P1 ⊢
 clear hzq5 cq5_0
 go_upto_region 7 with fail
 have cq7_0 := fun d os => (((P1).ext (ext_regrown w6 d os)).cell 1).trans (hX.x1)
 have cq7_1 := fun d os => (((P1).ext (ext_regrown w6 d os)).cell 2).trans (hX.x2)
 have cq7_2 := fun d os => (((P1).ext (ext_regrown w6 d os)).cell 3).trans (hX.x3)
 refine wp_region_reads ?_
 repeat (first | go_big_quiet_step (fail) | quiet_step (fail))
 refine wpQuiet_nil ?_
 intro _ hw'
 obtain ⟨⟨dq, osq⟩, hw''⟩ := hw'
 subst hw''
 replace P1 := (P1).ext (ext_regrown w6 dq osq)
 replace EE := hide (EE.out.trans (ext_regrown w6 dq osq))
 obtain ⟨w8, hzq7⟩ : ∃ w, grow (redrawn w6 dq) osq = w := ⟨_, rfl⟩
 rw [hzq7] at EE P1 ⊢
 clear hzq7 cq7_0 cq7_1 cq7_2
 go_upto_region 9 with fail
 have cq9_0 := fun d os => (((P1).ext (ext_regrown w8 d os)).cell 1).trans (hX.x1)
 have cq9_1 := fun d os => (((P1).ext (ext_regrown w8 d os)).cell 2).trans (hX.x2)
 have cq9_2 := fun d os => (((P1).ext (ext_regrown w8 d os)).cell 3).trans (hX.x3)
 refine wp_region_quiet_below (by kernel_rfl) (by kernel_rfl) ?_
 repeat (first | go_big_quiet_step (first | with_reducible exact quiet_ret (k1.out _) | with_reducible exact quiet_ret (k3.out _) | with_reducible exact quiet_ret (k2.out _) | with_reducible exact quiet_ret (k4.out _)) | (refine wq_load (by kernel_rfl) rfl rfl (fun w hw => by obtain ⟨⟨d, os⟩, rfl⟩ := hw; exact run_load_part ((P1).ext (ext_regrown w8 d os)) _ _ uWide rfl 4 5 iWide (by rw [hX.s]; first | decide | omega) _ (hX.x4)) ?_) | quiet_step (first | with_reducible exact quiet_ret (k1.out _) | with_reducible exact quiet_ret (k3.out _) | with_reducible exact quiet_ret (k2.out _) | with_reducible exact quiet_ret (k4.out _)))
 refine wpQuiet_nil ?_
 intro _ hw'
 obtain ⟨⟨dq, osq⟩, hw''⟩ := hw'
 subst hw''
 replace P1 := (P1).ext (ext_regrown w8 dq osq)
 replace EE := hide (EE.out.trans (ext_regrown w8 dq osq))
 obtain ⟨w10, hzq9⟩ : ∃ w, grow (redrawn w8 dq) osq = w := ⟨_, rfl⟩
 rw [hzq9] at EE P1 ⊢
 clear hzq9 cq9_0 cq9_1 cq9_2
 go_upto_region 11 with fail
 refine wp_region_reads ?_
 repeat (first | go_big_quiet_step (first | with_reducible exact quiet_ret (km.out _)) | (refine wq_load (by kernel_rfl) rfl rfl (fun w hw => by obtain ⟨⟨d, os⟩, rfl⟩ := hw; exact ld_all ((P1).ext (ext_regrown w10 d os)) uMean rfl iMean hX.s) ?_) | quiet_step (first | with_reducible exact quiet_ret (km.out _)))
 refine wpQuiet_nil ?_
 intro _ hw'
 obtain ⟨⟨dq, osq⟩, hw''⟩ := hw'
 subst hw''
 replace P1 := (P1).ext (ext_regrown w10 dq osq)
 replace EE := hide (EE.out.trans (ext_regrown w10 dq osq))
 obtain ⟨w12, hzq11⟩ : ∃ w, grow (redrawn w10 dq) osq = w := ⟨_, rfl⟩
 rw [hzq11] at EE P1 ⊢
 clear hzq11
 go_upto_region 12 with fail
 have cq13_0 := fun d os => (((P1).ext (ext_regrown w12 d os)).cell 2).trans (hX.x2)
 have cq13_1 := fun d os => (((P1).ext (ext_regrown w12 d os)).cell 0).trans (hX.x0)
 have cq13_2 := fun d os => (((P1).ext (ext_regrown w12 d os)).cell 3).trans (hX.x3)
 refine wp_region_reads ?_
 repeat (first | go_big_quiet_step (first | with_reducible exact quiet_ret (k5.out _) | with_reducible exact quiet_ret (k6.out _)) | quiet_step (first | with_reducible exact quiet_ret (k5.out _) | with_reducible exact quiet_ret (k6.out _)))
 refine wpQuiet_nil ?_
 intro _ hw'
 obtain ⟨⟨dq, osq⟩, hw''⟩ := hw'
 subst hw''
 replace P1 := (P1).ext (ext_regrown w12 dq osq)
 replace EE := hide (EE.out.trans (ext_regrown w12 dq osq))
 obtain ⟨w14, hzq13⟩ : ∃ w, grow (redrawn w12 dq) osq = w := ⟨_, rfl⟩
 rw [hzq13] at EE P1 ⊢
 clear hzq13 cq13_0 cq13_1 cq13_2
 go_wp2_with fail
 go_ret
 exact ⟨rfl, EE.out⟩
end
section
abbrev Mn := Nat × Int × Int × Int
def FitN (eps : Int) (s : Mn) : Prop := s.2.2.2 / (s.1 : Int) - s.2.1 ≤ eps ∧ s.2.2.1 - s.2.2.2 / (s.1 : Int) ≤ eps
instance (eps : Int) (s : Mn) : Decidable (FitN eps s) := by unfold FitN; infer_instance
def moreN (s : Mn) (v : Int) : Mn := (s.1 + 1, min s.2.1 v, max s.2.2.1 v, s.2.2.2 + v)
def oneN (v : Int) : Mn := (1, v, v, v)
def stepN (eps : Int) : Option Mn → Int → Option Mn × List Mn
 | none, v => (some (oneN v), [])
 | some s, v => if FitN eps (moreN s v) then (some (moreN s v), []) else (some (oneN v), [s])
def stateN (eps : Int) (s : Option Mn) (l : List Int) : Option Mn := l.foldl (fun s v => (stepN eps s v).1) s
def doneN (eps : Int) : Option Mn → List Int → List Mn
 | _, [] => []
 | s, v :: l => (stepN eps s v).2 ++ doneN eps (stepN eps s v).1 l
def endN : Option Mn → List Mn
 | none => []
 | some s => [s]
def allN (eps : Int) (l : List Int) : List Mn := doneN eps none l ++ endN (stateN eps none l)
theorem stateN_app (eps : Int) (s : Option Mn) (l m : List Int) : stateN eps s (l ++ m) = stateN eps (stateN eps s l) m := by simp [stateN, List.foldl_append]
theorem doneN_app (eps : Int) : ∀ (l m : List Int) (s : Option Mn), doneN eps s (l ++ m) = doneN eps s l ++ doneN eps (stateN eps s l) m
 | [], m, s => by simp [doneN, stateN]
 | v :: l, m, s => by
   simp only [List.cons_append, doneN, doneN_app eps l m, List.append_assoc]
   rfl
theorem fit_one {eps : Int} (he : 0 ≤ eps) (v : Int) : FitN eps (oneN v) := by
 unfold FitN oneN
 simp only [Int.natCast_one, Int.ediv_one]
 omega
def IsN (p : List Int) (s : Mn) : Prop := p.length = s.1 ∧ 1 ≤ s.1 ∧ (∀ v ∈ p, s.2.1 ≤ v ∧ v ≤ s.2.2.1) ∧ s.2.1 ∈ p ∧ s.2.2.1 ∈ p ∧ p.sum = s.2.2.2
theorem isN_one (v : Int) : IsN [v] (oneN v) := ⟨rfl, Nat.le_refl _, fun w hw => by simp only [List.mem_singleton] at hw; subst hw; exact ⟨Int.le_refl _, Int.le_refl _⟩, by simp [oneN], by simp [oneN], by simp [oneN]⟩
theorem isN_more {p : List Int} {s : Mn} (h : IsN p s) (v : Int) : IsN (p ++ [v]) (moreN s v) := by
 obtain ⟨n, lo, hi, sm⟩ := s
 obtain ⟨h1, h2, h3, h4, h5, h6⟩ := h
 simp only [moreN] at *
 refine ⟨by simp [h1], by simp only; omega, fun w hw => ?_, ?_, ?_, by simp [h6]⟩
 · rw [List.mem_append, List.mem_singleton] at hw
   simp only
   rcases hw with hw | rfl
   · have := h3 w hw; omega
   · omega
 · rw [List.mem_append, List.mem_singleton]
   simp only
   rcases Int.le_total lo v with h | h
   · exact Or.inl (by rw [show min lo v = lo by omega]; exact h4)
   · exact Or.inr (by omega)
 · rw [List.mem_append, List.mem_singleton]
   simp only
   rcases Int.le_total hi v with h | h
   · exact Or.inr (by omega)
   · exact Or.inl (by rw [show max hi v = hi by omega]; exact h5)
theorem sum_ge {lo : Int} : ∀ {p : List Int}, (∀ v ∈ p, lo ≤ v) → (p.length : Int) * lo ≤ p.sum
 | [], _ => by simp
 | v :: p, h => by
   have h1 := h v (by simp)
   have h2 := sum_ge (p := p) fun w hw => h w (by simp [hw])
   simp only [List.length_cons, List.sum_cons, Int.natCast_add, Int.natCast_one, Int.add_mul, Int.one_mul]
   omega
theorem sum_le {hi : Int} : ∀ {p : List Int}, (∀ v ∈ p, v ≤ hi) → p.sum ≤ (p.length : Int) * hi
 | [], _ => by simp
 | v :: p, h => by
   have h1 := h v (by simp)
   have h2 := sum_le (p := p) fun w hw => h w (by simp [hw])
   simp only [List.length_cons, List.sum_cons, Int.natCast_add, Int.natCast_one, Int.add_mul, Int.one_mul]
   omega
end
section
theorem take_snoc {α : Type} {l : List α} {j : Nat} {v : α} (hv : l[j]? = some v) : l.take (j + 1) = l.take j ++ [v] := by rw [List.take_add_one, hv]; rfl
def OkN (eps : Int) : Option Mn → Prop
 | none => True
 | some s => s.1 ≤ 1073741824 ∧ (∃ p, IsN p s ∧ ∀ v ∈ p, I64 v) ∧ FitN eps s
def cntN : Option Mn → Nat
 | none => 0
 | some s => s.1
theorem step_okN {eps : Int} (he : Tol eps) {s : Option Mn} {v : Int} (h : OkN eps s) (hv : I64 v) (hc : cntN s < 1073741824) : OkN eps (stepN eps s v).1 ∧ cntN (stepN eps s v).1 ≤ cntN s + 1 := by
 have one : OkN eps (some (oneN v)) := ⟨by simp [oneN], ⟨[v], isN_one v, fun w hw => by simp only [List.mem_singleton] at hw; subst hw; exact hv⟩, fit_one he.1 v⟩
 cases s with
 | none => exact ⟨one, Nat.le_refl _⟩
 | some s =>
   obtain ⟨h1, ⟨p, hp, hi⟩, h3⟩ := h
   simp only [cntN] at hc
   simp only [stepN]
   by_cases hf : FitN eps (moreN s v)
   · rw [if_pos hf]
     refine ⟨⟨by simp only [moreN]; omega, ⟨p ++ [v], isN_more hp v, fun w hw => ?_⟩, hf⟩, Nat.le_refl _⟩
     rw [List.mem_append, List.mem_singleton] at hw
     rcases hw with hw | rfl
     · exact hi w hw
     · exact hv
   · rw [if_neg hf]
     exact ⟨one, by simp [cntN, oneN]⟩
theorem state_atN {eps : Int} (he : Tol eps) {l : List Int} (ho : ∀ v ∈ l, I64 v) (hn : l.length ≤ 1073741824) : ∀ j, j ≤ l.length → OkN eps (stateN eps none (l.take j)) ∧ cntN (stateN eps none (l.take j)) ≤ j
 | 0, _ => ⟨trivial, Nat.le_refl _⟩
 | j + 1, hj => by
   obtain ⟨h1, h2⟩ := state_atN he ho hn j (by omega)
   have hv : l[j]? = some (l[j]'(by omega)) := List.getElem?_eq_getElem _
   rw [take_snoc hv, stateN_app]
   have := step_okN he h1 (ho _ (List.mem_of_getElem? hv)) (by omega)
   exact ⟨this.1, Nat.le_trans this.2 (by omega)⟩
theorem done_snocN (eps : Int) {l : List Int} {j : Nat} {v : Int} (hv : l[j]? = some v) : doneN eps none (l.take (j + 1)) = doneN eps none (l.take j) ++ (stepN eps (stateN eps none (l.take j)) v).2 ∧ stateN eps none (l.take (j + 1)) = (stepN eps (stateN eps none (l.take j)) v).1 := by
 rw [take_snoc hv, doneN_app, stateN_app]
 exact ⟨by simp [doneN], rfl⟩
theorem okN_sum {p : List Int} {s : Mn} (h : IsN p s) : ((s.1 : Int) - 1) * s.2.1 + s.2.2.1 ≤ s.2.2.2 ∧ s.2.2.2 ≤ ((s.1 : Int) - 1) * s.2.2.1 + s.2.1 := by
 obtain ⟨n, lo, hi, sm⟩ := s
 obtain ⟨h1, h2, h3, h4, h5, h6⟩ := h
 simp only at *
 have key : ∀ {q : List Int} {x : Int}, x ∈ q → ∃ r : List Int, q.sum = x + r.sum ∧ r.length + 1 = q.length ∧ ∀ v ∈ r, v ∈ q := by
   intro q x hx
   obtain ⟨a, b, rfl⟩ := List.append_of_mem hx
   refine ⟨a ++ b, by simp; omega, by simp; omega, fun v hv => ?_⟩
   rw [List.mem_append] at hv ⊢
   rcases hv with h | h
   · exact Or.inl h
   · exact Or.inr (by simp [h])
 obtain ⟨r, e1, e2, e3⟩ := key h5
 obtain ⟨r', e1', e2', e3'⟩ := key h4
 have a := sum_ge (p := r) fun v hv => (h3 v (e3 v hv)).1
 have b := sum_le (p := r') fun v hv => (h3 v (e3' v hv)).2
 have l1 : (r.length : Int) = (n : Int) - 1 := by omega
 have l2 : (r'.length : Int) = (n : Int) - 1 := by omega
 rw [l1] at a
 rw [l2] at b
 omega
end
section
def OkV (eps : Int) : Option Mn → Prop
 | none => True
 | some (n, lo, hi, sm) => 1 ≤ n ∧ n ≤ 1073741824 ∧ I64 lo ∧ I64 hi ∧ lo ≤ hi ∧ ((n : Int) - 1) * lo + hi ≤ sm ∧ sm ≤ ((n : Int) - 1) * hi + lo ∧ FitN eps (n, lo, hi, sm)
theorem more_sum {n : Nat} {lo hi sm v : Int} (h1 : 1 ≤ n) (h : lo ≤ hi) (ha : ((n : Int) - 1) * lo + hi ≤ sm) (hb : sm ≤ ((n : Int) - 1) * hi + lo) : (((n + 1 : Nat) : Int) - 1) * min lo v + max hi v ≤ sm + v ∧ sm + v ≤ (((n + 1 : Nat) : Int) - 1) * max hi v + min lo v := by
 have p : (0 : Int) ≤ (n : Int) - 1 := by omega
 have a := Int.mul_le_mul_of_nonneg_left (show min lo v ≤ lo by omega) p
 have b := Int.mul_le_mul_of_nonneg_left (show hi ≤ max hi v by omega) p
 have e : (((n + 1 : Nat) : Int) - 1) = ((n : Int) - 1) + 1 := by omega
 rw [e, Int.add_mul, Int.add_mul, Int.one_mul, Int.one_mul]
 generalize ((n : Int) - 1) * min lo v = x at *
 generalize ((n : Int) - 1) * max hi v = y at *
 generalize ((n : Int) - 1) * lo = x' at *
 generalize ((n : Int) - 1) * hi = y' at *
 omega
theorem okV_more {eps : Int} {n : Nat} {lo hi sm v : Int} (h : OkV eps (some (n, lo, hi, sm))) (hv : I64 v) (hc : n < 1073741824) : OkV eps (some (moreN (n, lo, hi, sm) v)) ↔ FitN eps (moreN (n, lo, hi, sm) v) := by
 obtain ⟨h1, h2, ⟨h3, h3'⟩, ⟨h4, h4'⟩, h5, h6, h7, h8⟩ := h
 obtain ⟨v1, v2⟩ := hv
 have := more_sum (v := v) h1 h5 h6 h7
 exact ⟨fun h => h.2.2.2.2.2.2.2, fun hf => ⟨by omega, by omega, ⟨by simp only; omega, by simp only; omega⟩, ⟨by simp only; omega, by simp only; omega⟩, by simp only; omega, this.1, this.2, hf⟩⟩
theorem okN_okV {eps : Int} {s : Option Mn} (h : OkN eps s) : OkV eps s := by
 rcases s with _ | ⟨n, lo, hi, sm⟩
 · exact trivial
 · obtain ⟨h1, ⟨p, hp, hi'⟩, h3⟩ := h
   have hs := okN_sum hp
   exact ⟨hp.2.1, h1, hi' _ hp.2.2.2.1, hi' _ hp.2.2.2.2.1, (hp.2.2.1 _ hp.2.2.2.1).2, hs.1, hs.2, h3⟩
theorem okV_in {n : Nat} {lo hi sm : Int} (h5 : lo ≤ hi) (h6 : ((n : Int) - 1) * lo + hi ≤ sm) (h7 : sm ≤ ((n : Int) - 1) * hi + lo) : (n : Int) * lo ≤ sm ∧ sm ≤ (n : Int) * hi := by
 rw [Int.sub_mul, Int.one_mul] at h6 h7
 generalize (n : Int) * lo = x at *
 generalize (n : Int) * hi = y at *
 omega
theorem mean_inV {eps : Int} {n : Nat} {lo hi sm : Int} (h : OkV eps (some (n, lo, hi, sm))) : lo ≤ sm / (n : Int) ∧ sm / (n : Int) ≤ hi := by
 obtain ⟨h1, h2, h3, h4, h5, h6, h7, h8⟩ := h
 obtain ⟨a, b⟩ := okV_in h5 h6 h7
 have hp : (0 : Int) < (n : Int) := by omega
 refine ⟨(Int.le_ediv_iff_mul_le hp).2 (by rw [Int.mul_comm]; exact a), ?_⟩
 have := Int.ediv_le_ediv hp b
 rwa [Int.mul_ediv_cancel_left _ (by omega)] at this
theorem mean_i64 {eps : Int} {n : Nat} {lo hi sm : Int} (h : OkV eps (some (n, lo, hi, sm))) : I64 (sm / (n : Int)) := by
 obtain ⟨a, b⟩ := mean_inV h
 obtain ⟨h1, h2, ⟨h3, h3'⟩, ⟨h4, h4'⟩, _⟩ := h
 exact ⟨by omega, by omega⟩
theorem sum_size {eps : Int} {n : Nat} {lo hi sm : Int} (h : OkV eps (some (n, lo, hi, sm))) : sm.natAbs < 19807040628566084398385987584 := by
 obtain ⟨h1, h2, ⟨h3, h3'⟩, ⟨h4, h4'⟩, h5, h6, h7, h8⟩ := h
 obtain ⟨a, b⟩ := okV_in h5 h6 h7
 have p : (0 : Int) ≤ (n : Int) := by omega
 have a1 := Int.mul_le_mul_of_nonneg_left (show (-9223372036854775808 : Int) ≤ lo by omega) p
 have b1 := Int.mul_le_mul_of_nonneg_left (show hi ≤ (9223372036854775807 : Int) by omega) p
 omega
theorem bound_size {n : Nat} {a b : Int} (hn : n ≤ 1073741824) (h1 : 1 ≤ n) (ha : I64 a) (hb : I64 b) : (((n : Int) - 1) * a).natAbs < 19807040628566084398385987584 ∧ (((n : Int) - 1) * a + b).natAbs < 19807040628566084398385987584 := by
 obtain ⟨a1, a2⟩ := ha
 obtain ⟨b1, b2⟩ := hb
 have p : (0 : Int) ≤ (n : Int) - 1 := by omega
 have x := Int.mul_le_mul_of_nonneg_left (show (-9223372036854775808 : Int) ≤ a by omega) p
 have y := Int.mul_le_mul_of_nonneg_left (show a ≤ (9223372036854775807 : Int) by omega) p
 generalize ((n : Int) - 1) * a = z at *
 omega
def numN : Option Mn → Int × Int × Int × Int
 | none => (0, 0, 0, 0)
 | some (n, lo, hi, sm) => ((n : Int), lo, hi, sm)
def NumN (eps c lo hi sm : Int) : Prop := c = 0 ∧ lo = 0 ∧ hi = 0 ∧ sm = 0 ∨ c = 1 ∧ lo = hi ∧ sm = lo ∨ 2 ≤ c ∧ c ≤ 1073741824 ∧ lo ≤ hi ∧ (c - 1) * lo + hi ≤ sm ∧ sm ≤ (c - 1) * hi + lo ∧ sm / c - lo ≤ eps ∧ hi - sm / c ≤ eps
instance (eps c lo hi sm : Int) : Decidable (NumN eps c lo hi sm) := by unfold NumN; infer_instance
theorem numN_ok {eps : Int} {s : Option Mn} (h : OkV eps s) : NumN eps (numN s).1 (numN s).2.1 (numN s).2.2.1 (numN s).2.2.2 := by
 rcases s with _ | ⟨n, lo, hi, sm⟩
 · exact Or.inl ⟨rfl, rfl, rfl, rfl⟩
 · obtain ⟨h1, h2, h3, h4, h5, h6, h7, h8⟩ := h
   by_cases hn : n = 1
   · subst hn
     simp only [Int.natCast_one, Int.sub_self, Int.zero_mul, Int.zero_add] at h6 h7
     exact Or.inr (Or.inl ⟨rfl, by simp only [numN]; omega, by simp only [numN]; omega⟩)
   · exact Or.inr (Or.inr ⟨by simp only [numN]; omega, by simp only [numN]; omega, h5, h6, h7, h8.1, h8.2⟩)
end
section
open Go Go.RowKit Go.Sort
def vM (t c lo hi z : Int) : Bool := tolB t && decide (NumN t c lo hi z)
theorem numN_0 {t lo hi z : Int} : NumN t 0 lo hi z ↔ lo = 0 ∧ hi = 0 ∧ z = 0 := by unfold NumN; omega
theorem numN_1 {t lo hi z : Int} : NumN t 1 lo hi z ↔ lo = hi ∧ z = lo := by unfold NumN; omega
theorem numN_2 {t c lo hi z : Int} (h : 2 ≤ c) : NumN t c lo hi z ↔ c ≤ 1073741824 ∧ lo ≤ hi ∧ (c - 1) * lo + hi ≤ z ∧ z ≤ (c - 1) * hi + lo ∧ z / c - lo ≤ t ∧ hi - z / c ≤ t := by
 unfold NumN
 constructor
 · rintro (h1 | h1 | h1)
   · omega
   · omega
   · exact h1.2
 · intro h1
   exact Or.inr (Or.inr ⟨h, h1⟩)
theorem numN_n {t c lo hi z : Int} (h : c < 0) : ¬ NumN t c lo hi z := by
 unfold NumN
 rintro (h1 | h1 | h1) <;> omega
theorem bnd {c lo hi : Int} (h2 : 2 ≤ c) (h3 : c ≤ 1073741824) (hl : I64 lo) (hh : I64 hi) : F256 ((c - 1) * lo) ∧ F256 ((c - 1) * lo + hi) := by
 obtain ⟨n, rfl⟩ := Int.eq_ofNat_of_zero_le (show 0 ≤ c by omega)
 have := bound_size (n := n) (a := lo) (b := hi) (by omega) (by omega) hl hh
 unfold F256
 exact ⟨Nat.lt_trans this.1 (by decide), Nat.lt_trans this.2 (by decide)⟩
theorem q_in {c lo hi z : Int} (h2 : 1 ≤ c) (h5 : lo ≤ hi) (h6 : (c - 1) * lo + hi ≤ z) (h7 : z ≤ (c - 1) * hi + lo) : lo ≤ z / c ∧ z / c ≤ hi := by
 obtain ⟨n, rfl⟩ := Int.eq_ofNat_of_zero_le (show 0 ≤ c by omega)
 obtain ⟨a, b⟩ := okV_in h5 h6 h7
 have hp : (0 : Int) < (n : Int) := by omega
 refine ⟨(Int.le_ediv_iff_mul_le hp).2 (by rw [Int.mul_comm]; exact a), ?_⟩
 have := Int.ediv_le_ediv hp b
 rwa [Int.mul_ediv_cancel_left _ (by omega)] at this
theorem near_lo {q lo t : Int} (ht : Tol t) (h : lo ≤ q) : nearV q lo t = decide (q - lo ≤ t) := by
 have := ht.1
 unfold nearV
 rw [decide_eq_decide]
 omega
theorem near_hi {q hi t : Int} (ht : Tol t) (h : q ≤ hi) : nearV q hi t = decide (hi - q ≤ t) := by
 have := ht.1
 unfold nearV
 rw [decide_eq_decide]
 omega
theorem wr1 {c : Int} (h : I64 c) (h2 : 1 ≤ c) : IntKind.i64.wrap (c - 1) = c - 1 := by obtain ⟨h, h'⟩ := h; rw [IntKind.wrap_i64]; omega
theorem r_sumN (c a b : Int) (ic : I64 c) (h2 : 2 ≤ c) (h3 : c ≤ 1073741824) (ha : I64 a) (hb : I64 b) (W : World) : Calls Try.prog 59 #[.int .i64 (c - 1), .int .i64 a, .int .i64 b] W (Ret (.agg (wCe ((c - 1) * a + b))) W) :=
 r_times (c - 1) a b _ _ ⟨by omega, by omega⟩ ha hb rfl (bnd h2 h3 ha hb).1 rfl (bnd h2 h3 ha hb).2 W
theorem p_avgM (t c lo hi z : Int) (ic : I64 c) (h2 : 1 ≤ c) (hl : I64 lo) (hh : I64 hi) (hz : F256 z) (h5 : lo ≤ hi) (h6 : (c - 1) * lo + hi ≤ z) (h7 : z ≤ (c - 1) * hi + lo) (W : World) : Calls Try.prog 67 #[.agg (meC t c lo hi z)] W (Ret (.int .i64 (z / c)) W) :=
 p_avg _ t c lo hi z (meX_of _ _ _ _ _) _ hz ic (by omega) rfl (by have := q_in h2 h5 h6 h7; unfold I64 at *; omega) W
theorem r_avgM (t c lo hi z : Int) (ic : I64 c) (h2 : 1 ≤ c) (hl : I64 lo) (hh : I64 hi) (hz : F256 z) (h5 : lo ≤ hi) (h6 : (c - 1) * lo + hi ≤ z) (h7 : z ≤ (c - 1) * hi + lo) (W : World) : Calls Try.prog 53 #[.agg (meC t c lo hi z)] W (Ret (.tuple #[.int .i64 (z / c), .bool true]) W) :=
 r_mean _ t c lo hi z (meX_of _ _ _ _ _) _ hz ic (by omega) rfl (by have := q_in h2 h5 h6 h7; unfold I64 at *; omega) W
theorem p_neaM (t c lo hi z : Int) (ht : Tol t) (ic : I64 c) (h2 : 1 ≤ c) (hl : I64 lo) (hh : I64 hi) (hz : F256 z) (h5 : lo ≤ hi) (h6 : (c - 1) * lo + hi ≤ z) (h7 : z ≤ (c - 1) * hi + lo) (W : World) : Calls Try.prog 57 #[.agg (meC t c lo hi z)] W (Ret (.bool (decide (z / c - lo ≤ t) && decide (hi - z / c ≤ t))) W) := by
 have k1 := hide fun w => p_avgM t c lo hi z ic h2 hl hh hz h5 h6 h7 w
 obtain ⟨a, b⟩ := q_in h2 h5 h6 h7
 have iq : I64 (z / c) := by unfold I64 at *; omega
 have k2 := fun w => p_near (z / c) lo t w iq hl (tol64 ht) _ rfl
 have k3 := fun w => p_near (z / c) hi t w iq hh (tol64 ht) _ rfl
 rw [near_lo ht a] at k2
 rw [near_hi ht b] at k3
 by_cases h : z / c - lo ≤ t
 · rw [decide_eq_true h] at k2 ⊢
   exact p_neaY _ t c lo hi z (meX_of _ _ _ _ _) _ _ k1 (hide k2) (hide k3) W
 · rw [decide_eq_false h] at k2 ⊢
   exact p_neaN _ t c lo hi z (meX_of _ _ _ _ _) _ _ k1 (hide k2) (hide k3) W
theorem eqWd {x y : Int} (hx : F256 x) (hy : F256 y) (w : World) : (binOp .eql 25 (.agg (wCe x)) (.agg (wCe y))).run Try.prog w = .ok (.bool (decide (x = y))) w := by
 unfold wCe
 rw [eq5]
 have := same_isC (isC_of hx) (isC_of hy)
 unfold same5 at this
 rw [this]
theorem r_validM (t c lo hi z : Int) (ht : I64 t) (ic : I64 c) (hl : I64 lo) (hh : I64 hi) (hz : F256 z) (v : Bool) (hv : vM t c lo hi z = v) (W : World) : Calls Try.prog 39 #[.agg (meC t c lo hi z)] W (Ret (.bool v) W) := by
 subst hv
 unfold vM
 have hX := meX_of t c lo hi z
 cases hT : tolB t with
 | false => exact r_vTe _ _ t c lo hi hX (wC_size z) (wC_onee z) (hide fun w => r_tolI t w false hT) W
 | true =>
   have kt := hide fun w => r_tolI t w true hT
   have hT' := tolB_iff.1 hT
   have ks := hide fun w => rw_valid hz w
   rw [Bool.true_and]
   by_cases h0 : c = 0
   · subst h0
     by_cases hl0 : lo = 0
     · have e1 : (lo == 0) = true := by rw [beq_iff_eq]; exact hl0
       by_cases hh0 : hi = 0
       · have := r_v0c _ t 0 lo hi z hX kt ks rfl e1 (by rw [beq_iff_eq]; exact hh0) _ _ (hide fun w => rw_sign hz rfl w) rfl W
         rwa [show (z.sign == 0) = decide (NumN t 0 lo hi z) by
           rw [Bool.eq_iff_iff, beq_iff_eq, decide_eq_true_iff, numN_0, Int.sign_eq_zero_iff_zero]
           exact ⟨fun h => ⟨hl0, hh0, h⟩, fun h => h.2.2⟩] at this
       · rw [decide_eq_false (fun h => hh0 (numN_0.1 h).2.1)]
         exact r_v0b _ t 0 lo hi z hX kt ks rfl e1 (by rw [beq_eq_false_iff_ne]; exact hh0) W
     · rw [decide_eq_false (fun h => hl0 (numN_0.1 h).1)]
       exact r_v0a _ t 0 lo hi z hX kt ks rfl (by rw [beq_eq_false_iff_ne]; exact hl0) W
   · have d0 : (c == 0) = false := by rw [beq_eq_false_iff_ne]; exact h0
     by_cases h1 : c = 1
     · subst h1
       by_cases he : lo = hi
       · have := r_v1b _ t 1 lo hi z hX kt ks d0 rfl (by rw [beq_iff_eq]; exact he) _ (hide fun w => rw_ofi hl w) (fun w => eqWd hz (f64 hl) w) W
         rwa [show decide (z = lo) = decide (NumN t 1 lo hi z) by rw [decide_eq_decide, numN_1]; exact ⟨fun h => ⟨he, h⟩, fun h => h.2⟩] at this
       · rw [decide_eq_false (fun h => he (numN_1.1 h).1)]
         exact r_v1a _ t 1 lo hi z hX kt ks d0 rfl (by rw [beq_eq_false_iff_ne]; exact he) W
     · have d1 : (c == 1) = false := by rw [beq_eq_false_iff_ne]; exact h1
       by_cases h2 : 2 ≤ c
       · have d2 : decide (c < 0) = false := decide_eq_false (by omega)
         have hN := numN_2 (t := t) (lo := lo) (hi := hi) (z := z) h2
         by_cases h3 : c ≤ 1073741824
         · have d3 : decide (1073741824 < c) = false := decide_eq_false (by omega)
           by_cases h4 : lo ≤ hi
           · have d4 : decide (hi < lo) = false := decide_eq_false (by omega)
             have k1 := hide fun w => r_sumN c lo hi ic h2 h3 hl hh w
             have k2 := hide fun w => r_sumN c hi lo ic h2 h3 hh hl w
             have k3 := hide fun w => rw_cmp hz (bnd h2 h3 hl hh).2 rfl w
             have k4 := hide fun w => rw_cmp hz (bnd h2 h3 hh hl).2 rfl w
             have e1 := cmpI_lte (x := z) (y := (c - 1) * lo + hi) rfl
             have e2 := cmpI_gte (x := z) (y := (c - 1) * hi + lo) rfl
             have wr := wr1 ic (by omega)
             by_cases h5 : (c - 1) * lo + hi ≤ z
             · rw [decide_eq_false (show ¬ z < (c - 1) * lo + hi by omega)] at e1
               by_cases h6 : z ≤ (c - 1) * hi + lo
               · rw [decide_eq_false (show ¬ (c - 1) * hi + lo < z by omega)] at e2
                 have km := hide fun w => r_avgM t c lo hi z ic (by omega) hl hh hz h4 h5 h6 w
                 obtain ⟨a, b⟩ := q_in (by omega) h4 h5 h6
                 have iq : I64 (z / c) := by unfold I64 at *; omega
                 have k5 := fun w => r_near (z / c) lo t w iq hl (tol64 hT') _ rfl
                 have k6 := fun w => r_near (z / c) hi t w iq hh (tol64 hT') _ rfl
                 rw [near_lo hT' a] at k5
                 rw [near_hi hT' b] at k6
                 by_cases h7 : z / c - lo ≤ t
                 · rw [decide_eq_true h7] at k5
                   have := r_v2g _ t c lo hi z hX kt ks d0 d1 d2 d3 d4 _ _ _ _ _ wr k1 k3 e1 k2 k4 e2 _ km (hide k5) _ (hide k6) W
                   rwa [show decide (hi - z / c ≤ t) = decide (NumN t c lo hi z) by rw [decide_eq_decide, hN]; exact ⟨fun h => ⟨h3, h4, h5, h6, h7, h⟩, fun h => h.2.2.2.2.2⟩] at this
                 · rw [decide_eq_false h7] at k5
                   rw [decide_eq_false (fun h => h7 (hN.1 h).2.2.2.2.1)]
                   exact r_v2fe _ t c lo hi z hX kt ks d0 d1 d2 d3 d4 _ _ _ _ _ wr k1 k3 e1 k2 k4 e2 _ km (hide k5) W
               · rw [decide_eq_true (show (c - 1) * hi + lo < z by omega)] at e2
                 rw [decide_eq_false (fun h => h6 (hN.1 h).2.2.2.1)]
                 exact r_v2ee _ t c lo hi z hX kt ks d0 d1 d2 d3 d4 _ _ _ _ _ wr k1 k3 e1 k2 k4 e2 W
             · rw [decide_eq_true (show z < (c - 1) * lo + hi by omega)] at e1
               rw [decide_eq_false (fun h => h5 (hN.1 h).2.2.1)]
               exact r_v2de _ t c lo hi z hX kt ks d0 d1 d2 d3 d4 _ _ 0 _ 0 wr k1 k3 e1 W
           · rw [decide_eq_false (fun h => h4 (hN.1 h).2.1)]
             exact r_v2ce _ t c lo hi z hX kt ks d0 d1 d2 d3 (decide_eq_true (by omega)) W
         · rw [decide_eq_false (fun h => h3 (hN.1 h).1)]
           exact r_v2be _ t c lo hi z hX kt ks d0 d1 d2 (decide_eq_true (by omega)) W
       · rw [decide_eq_false (numN_n (by omega))]
         exact r_v2ae _ t c lo hi z hX kt ks d0 d1 (decide_eq_true (by omega)) W
end
section
open Go Go.RowKit Go.Sort
attribute [local go_sem] qUpon eUpon putE slE
def coR (c q : Int) : Array Value := #[.int .i64 c, .int .i64 q]
theorem b_co (c q : Int) : Try.prog.built 53 [(0, .int .i64 c), (1, .int .i64 q)] = some (coR c q) := by kernel_rfl
def CS (W0 : World) (l : List (Int × Int)) (s : Nat) (R : Nat → Value) (w : World) : Prop := Ext W0 w ∧ (0 < s → ∃ A k, R 0 = .slice A l.length k ∧ OwnC W0.heap.size w (.slice A l.length k) l)
theorem cs_below {W0 : World} {l : List (Int × Int)} : ∀ s R w w', CS W0 l s R w → Below w.heap.size w w' → CS W0 l s R w' := fun s R w w' h k =>
 ⟨h.1.trans k, fun hs => by
   obtain ⟨A, c, h1, h2⟩ := h.2 hs
   exact ⟨A, c, h1, h2.ext k⟩⟩
theorem cs_filled {W0 w w1 : World} {l : List (Int × Int)} {s : Nat} {R : Nat → Value} {g : Nat} {f : Obj} {cs : Array Value} {T : TypeId} (h : CS W0 l s R w) (hF : Filled w w1 g f) (hg : W0.heap.size ≤ g) (hz : w.heap[g]? = some (.cells cs T (0, 0))) (hT : T ≠ 53) : CS W0 l s R w1 :=
 ⟨ext_filled h.1 hF hg, fun hs => by
   obtain ⟨A, c, h1, h2, h3⟩ := h.2 hs
   refine ⟨A, c, h1, ?_, h3⟩
   obtain ⟨h4, h5 | ⟨g', cap, cur, hv, hg', hh, r⟩⟩ := h2
   · exact ⟨h4, Or.inl h5⟩
   · refine ⟨h4, Or.inr ⟨g', cap, cur, hv, hg', ?_, r⟩⟩
     rw [hF.2.1 g' (fun e => by subst e; rw [hz] at hh; injection hh with hh; injection hh with _ hh _; exact hT hh)]
     exact hh⟩
theorem cs_ev {W0 w w' : World} {l : List (Int × Int)} {R : Nat → Value} {A : Option Addr} {k : Nat} (h : CS W0 l 0 R w) (hO : OwnC w.heap.size w' (.slice A l.length k) l) (hE : Ext w w') : CS W0 l 1 (updR R 0 (.slice A l.length k)) w' ∧ GrowE (fun _ => False) w w' :=
 ⟨⟨h.1.trans hE, fun _ => ⟨A, k, by unfold updR; rw [if_pos rfl], hO.less h.1.size⟩⟩, Below.growE hE⟩
theorem cs_one {W0 w : World} {c q : Int} {R : Nat → Value} (h : CS W0 [(c, q)] 0 R w) (ic : I64 c) (iq : I64 q) : CS W0 [(c, q)] 1 (updR R 0 (.slice (some ⟨w.heap.size, 0, none⟩) 1 1)) (w.alloc (.cells (coR c q) 53)) :=
 ⟨h.1.trans (ext_alloc _ _), fun _ => ⟨some ⟨w.heap.size, 0, none⟩, 1, by unfold updR; rw [if_pos rfl]; rfl, one_co ic iq h.1.size⟩⟩
theorem run_co1 (w : World) (c q : Int) : (Instr.buildSlice 46 1 #[(0, .agg (coR c q))]).run Try.prog w = .ok (.slice (some ⟨w.heap.size, 0, none⟩) 1 1) (w.alloc (.cells (coR c q) 53)) := by
 have hi : (Try.prog.info? 53).map (fun i => (i.size, i.zero)) = some (2, some (.agg #[.int .i64 0, .int .i64 0])) := by kernel_rfl
 obtain ⟨ie, hie, hz, hsz⟩ : ∃ ie, Try.prog.info? 53 = some ie ∧ ie.zero = some (.agg #[.int .i64 0, .int .i64 0]) ∧ ie.size = 2 := by
   cases hj : Try.prog.info? 53 with
   | none => rw [hj] at hi; cases hi
   | some j =>
     rw [hj] at hi
     simp only [Option.map_some, Option.some.injEq, Prod.mk.injEq] at hi
     exact ⟨j, rfl, hi.2, hi.1⟩
 refine run_buildSlice w 46 53 1 _ (coR c q) ie (.agg #[.int .i64 0, .int .i64 0]) (by kernel_rfl) hie hz (by rw [hsz]; decide) (by rw [hsz]; decide) ?_
 rw [hsz]
 kernel_rfl
theorem ev_co1 {T : Nat → (Nat → Value) → World → Prop} {E : Nat → Prop} {m : Nat} {R : Nat → Value} {w : World} {a : Act} {o : Oper} {parts : Array (Nat × Operand)} (c q : Int) (ho : o.op = .buildSlice 46 1 parts) (hx : (parts.map fun (i, x) => (i, a.eval x)) = #[(0, .agg (coR c q))])
   (hT : T (m + 1) (updR R m (.slice (some ⟨w.heap.size, 0, none⟩) 1 1)) (w.alloc (.cells (coR c q) 53))) : eUpon Try.prog T E m R w ((execOp a.eval o).run Try.prog w) := by
 have hr := run_co1 w c q
 unfold execOp
 simp only [ho, hx, Sem.run_bind, hr, Result.andThen_ok, Sem.run_pure]
 exact ⟨hT, Below.growE (below_alloc _ _)⟩
end
end Go.Proofs.Ytlfmeiejocpnfaa
