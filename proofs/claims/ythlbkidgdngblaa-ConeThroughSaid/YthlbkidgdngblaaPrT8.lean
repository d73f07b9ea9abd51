/- Part 8 of what these claims stand on: contracts of the program's and the reference's functions, and plain facts. Conditions: each states its own. -/
import Derived.Test.YthlbkidgdngblaaPrT7
import Derived.Deep.RegionHeld3
import Derived.Great.BuildSlice
namespace Go.Proofs.Ythlbkidgdngblaa
set_option linter.unusedVariables false
set_option linter.unusedSimpArgs false
section
open Go Go.RowKit Go.Sort
attribute [local go_sem] qUpon eUpon putE slE
set_option maxHeartbeats 3200000 in
set_option maxRecDepth 100000 in
theorem pc_base1 (X : Array Value) (b c d : Nat) (W : World) (sX : X.size = 5) (oX : X.all (·.oneCell') = true) (f2 : X[2]? = some (.int .u64 (b : Int))) (f3 : X[3]? = some (.int .u64 (c : Int))) (f4 : X[4]? = some (.int .u64 (d : Int))) (kv : Hid (∀ w, Calls Try.prog 64 #[.agg X] w (Ret (.bool false) w))) :
   Calls Try.prog 37 #[.agg X] W (Ret (.bool false) W) := by
 have P1 := Blk.new W 25 X
 have EE := hide (ext_alloc W (.cells X 25))
 obtain ⟨W1, hW1⟩ : ∃ W1, (W.alloc (.cells X 25)) = W1 := ⟨_, rfl⟩
 obtain ⟨g0, hg⟩ : ∃ g, W.heap.size = g := ⟨_, rfl⟩
 rw [hW1] at P1 EE
 rw [hg] at P1
 have P1_lo : W.heap.size ≤ g0 := by omega
 have HW := hide hW1
 have Hg := hide hg
 clear hW1 hg
 go_enter Try.func37, Try.ntmps37
 go_upto_region 1 with fail
 rw [HW.out, Hg.out]
 clear HW Hg
 have P1_lt := P1.lt
 refine wp_evs [.q, .q, .q, .sk, .sk, .sk, .sk, .q, .q, .sk, .sk, .sk, .sk, .q, .q, .sk, .sk, .sk, .sk, .q, .q] [0, 0, 0, 0, 0, 0, 0, 0, 0, 0, 0, 0, 0, 0, 0, 0, 0, 0, 0, 0, 0] (fun R => [.agg X, .bool false, .bool false, undef, undef, undef, undef, .bool false, .bool false, undef, undef, undef, undef, .bool false, .bool false, undef, undef, undef, undef, .bool false, .bool false]) (fun _ => (.cells #[] 0 (0, 0))) (fun R _ => (.cells #[] 0 (0, 0))) (fun _ => 0) (XE W) (fun _ => False) (by kernel_rfl) (by kernel_rfl) (by kernel_rfl) rfl (fun _ => rfl) (fun _ h => h.elim) (fun _ _ h => h) (by simp) (by simp) (fun R R' => ⟨fun _ => rfl, fun _ => rfl, fun _ => rfl, fun _ => rfl, fun _ => rfl, fun _ => rfl, fun _ => rfl, fun _ => rfl, fun _ => rfl, fun _ => rfl, fun _ => rfl, fun _ => rfl, fun _ => rfl, fun _ => rfl, fun _ => rfl, fun _ => rfl, fun _ => rfl, fun _ => rfl, fun _ => rfl, fun _ => rfl, fun _ => rfl, trivial⟩) (fun _ _ _ _ => rfl) xe_below EE.out ?ops21 ?end21
 case ops21 =>
   refine ⟨?_, ?_, ?_, ?_, ?_, ?_, ?_, ?_, ?_, ?_, ?_, ?_, ?_, ?_, ?_, ?_, ?_, ?_, ?_, ?_, ?_, trivial⟩
   · refine er_q ?vn1 ?hn1 ?kn1 ?gn1 ?_
     case hn1 => exact rfl
     case vn1 => exact (fun R => .agg X)
     case kn1 => exact (fun R => rfl)
     case gn1 => exact gd_none rfl
     intro R s w' hT hs hw ha
     have L := ld_all (P1.sameE hw (fun h => h) (by simp)) uWide rfl iWide sX
     generalize hA : putE _ _ _ _ _ _ _ = AA
     refine q_load rfl ?_ L
     subst hA
     kernel_rfl
   · refine er_q ?vn2 ?hn2 ?kn2 ?gn2 ?_
     case hn2 => exact rfl
     case vn2 => exact (fun R => .bool false)
     case kn2 => exact (fun R => rfl)
     case gn2 => exact gd_none rfl
     intro R s w' hT hs hw ha
     go_simp
     exact kv.out w'
   · refine er_q ?vn3 ?hn3 ?kn3 ?gn3 ?_
     case hn3 => exact rfl
     case vn3 => exact (fun R => .bool false)
     case kn3 => exact (fun R => rfl)
     case gn3 => exact gd_none rfl
     intro R s w' hT hs hw ha
     go_simp
   · refine er_sk ?hn4 ?gn4
     case hn4 => exact rfl
     case gn4 => (refine gd_some rfl ?_; intro R; kernel_rfl)
   · refine er_sk ?hn5 ?gn5
     case hn5 => exact rfl
     case gn5 => (refine gd_some rfl ?_; intro R; kernel_rfl)
   · refine er_sk ?hn6 ?gn6
     case hn6 => exact rfl
     case gn6 => (refine gd_some rfl ?_; intro R; kernel_rfl)
   · refine er_sk ?hn7 ?gn7
     case hn7 => exact rfl
     case gn7 => (refine gd_some rfl ?_; intro R; kernel_rfl)
   · refine er_q ?vn8 ?hn8 ?kn8 ?gn8 ?_
     case hn8 => exact rfl
     case vn8 => exact (fun R => .bool false)
     case kn8 => exact (fun R => rfl)
     case gn8 => exact gd_none rfl
     intro R s w' hT hs hw ha
     go_simp
   · refine er_q ?vn9 ?hn9 ?kn9 ?gn9 ?_
     case hn9 => exact rfl
     case vn9 => exact (fun R => .bool false)
     case kn9 => exact (fun R => rfl)
     case gn9 => exact gd_none rfl
     intro R s w' hT hs hw ha
     go_simp
   · refine er_sk ?hn10 ?gn10
     case hn10 => exact rfl
     case gn10 => (refine gd_some rfl ?_; intro R; kernel_rfl)
   · refine er_sk ?hn11 ?gn11
     case hn11 => exact rfl
     case gn11 => (refine gd_some rfl ?_; intro R; kernel_rfl)
   · refine er_sk ?hn12 ?gn12
     case hn12 => exact rfl
     case gn12 => (refine gd_some rfl ?_; intro R; kernel_rfl)
   · refine er_sk ?hn13 ?gn13
     case hn13 => exact rfl
     case gn13 => (refine gd_some rfl ?_; intro R; kernel_rfl)
   · refine er_q ?vn14 ?hn14 ?kn14 ?gn14 ?_
     case hn14 => exact rfl
     case vn14 => exact (fun R => .bool false)
     case kn14 => exact (fun R => rfl)
     case gn14 => exact gd_none rfl
     intro R s w' hT hs hw ha
     go_simp
   · refine er_q ?vn15 ?hn15 ?kn15 ?gn15 ?_
     case hn15 => exact rfl
     case vn15 => exact (fun R => .bool false)
     case kn15 => exact (fun R => rfl)
     case gn15 => exact gd_none rfl
     intro R s w' hT hs hw ha
     go_simp
   · refine er_sk ?hn16 ?gn16
     case hn16 => exact rfl
     case gn16 => (refine gd_some rfl ?_; intro R; kernel_rfl)
   · refine er_sk ?hn17 ?gn17
     case hn17 => exact rfl
     case gn17 => (refine gd_some rfl ?_; intro R; kernel_rfl)
   · refine er_sk ?hn18 ?gn18
     case hn18 => exact rfl
     case gn18 => (refine gd_some rfl ?_; intro R; kernel_rfl)
   · refine er_sk ?hn19 ?gn19
     case hn19 => exact rfl
     case gn19 => (refine gd_some rfl ?_; intro R; kernel_rfl)
   · refine er_q ?vn20 ?hn20 ?kn20 ?gn20 ?_
     case hn20 => exact rfl
     case vn20 => exact (fun R => .bool false)
     case kn20 => exact (fun R => rfl)
     case gn20 => exact gd_none rfl
     intro R s w' hT hs hw ha
     go_simp
   · refine er_q ?vn21 ?hn21 ?kn21 ?gn21 ?_
     case hn21 => exact rfl
     case vn21 => exact (fun R => .bool false)
     case kn21 => exact (fun R => rfl)
     case gn21 => exact gd_none rfl
     intro R s w' hT hs hw ha
     go_simp
 case end21 =>
  intro sI R G w22 hI
  have hS := hI.same
  have hTT := hI.holds
  have hz0 := EE.out.size
  have P1 := P1.sameE hS (fun h => h) (by simp)
  have EE := hide (show Ext _ _ from hTT)
  clear hS hz0 hTT hI
  generalize hF : putE _ _ _ _ _ _ _ = FF
  have hF2 : FF = { tmps := #[.agg X, .pointer (some ⟨g0, 0, none⟩), .bool false, .agg X, .bool false, .bool false, undef, undef, undef, undef, .bool false, .bool false, undef, undef, undef, undef, .bool false, .bool false, undef, undef, undef, undef, .bool false], defers := [] } := by subst hF; kernel_rfl
  clear hF
  subst hF2
  go_wp2_with fail
  go_ret
  exact ⟨rfl, EE.out⟩
set_option maxHeartbeats 3200000 in
set_option maxRecDepth 100000 in
theorem pc_base2 (X : Array Value) (b c d : Nat) (W : World) (sX : X.size = 5) (oX : X.all (·.oneCell') = true) (f2 : X[2]? = some (.int .u64 (b : Int))) (f3 : X[3]? = some (.int .u64 (c : Int))) (f4 : X[4]? = some (.int .u64 (d : Int))) (kv : Hid (∀ w, Calls Try.prog 64 #[.agg X] w (Ret (.bool true) w))) (hd : d ≠ 0) :
   Calls Try.prog 37 #[.agg X] W (Ret (.bool false) W) := by
 have ed : (((d : Nat) : Int) == 0) = false := by rw [beq_eq_false_iff_ne]; omega
 have ed' : decide (d = 0) = false := decide_eq_false hd
 clear hd
 have P1 := Blk.new W 25 X
 have EE := hide (ext_alloc W (.cells X 25))
 obtain ⟨W1, hW1⟩ : ∃ W1, (W.alloc (.cells X 25)) = W1 := ⟨_, rfl⟩
 obtain ⟨g0, hg⟩ : ∃ g, W.heap.size = g := ⟨_, rfl⟩
 rw [hW1] at P1 EE
 rw [hg] at P1
 have P1_lo : W.heap.size ≤ g0 := by omega
 have HW := hide hW1
 have Hg := hide hg
 clear hW1 hg
 go_enter Try.func37, Try.ntmps37
 go_upto_region 1 with fail
 rw [HW.out, Hg.out]
 clear HW Hg
 have P1_lt := P1.lt
 refine wp_evs [.q, .q, .q, .q, .q, .q, .q, .q, .q, .sk, .sk, .sk, .sk, .q, .q, .sk, .sk, .sk, .sk, .q, .q] [0, 0, 0, 0, 0, 0, 0, 0, 0, 0, 0, 0, 0, 0, 0, 0, 0, 0, 0, 0, 0] (fun R => [.agg X, .bool true, .bool true, .pointer (some ⟨g0, 1, none⟩), .pointer (some ⟨g0, 4, none⟩), .int .u64 (d : Int), .bool false, .bool false, .bool false, undef, undef, undef, undef, .bool false, .bool false, undef, undef, undef, undef, .bool false, .bool false]) (fun _ => (.cells #[] 0 (0, 0))) (fun R _ => (.cells #[] 0 (0, 0))) (fun _ => 0) (XE W) (fun _ => False) (by kernel_rfl) (by kernel_rfl) (by kernel_rfl) rfl (fun _ => rfl) (fun _ h => h.elim) (fun _ _ h => h) (by simp) (by simp) (fun R R' => ⟨fun _ => rfl, fun _ => rfl, fun _ => rfl, fun _ => rfl, fun _ => rfl, fun _ => rfl, fun _ => rfl, fun _ => rfl, fun _ => rfl, fun _ => rfl, fun _ => rfl, fun _ => rfl, fun _ => rfl, fun _ => rfl, fun _ => rfl, fun _ => rfl, fun _ => rfl, fun _ => rfl, fun _ => rfl, fun _ => rfl, fun _ => rfl, trivial⟩) (fun _ _ _ _ => rfl) xe_below EE.out ?ops21 ?end21
 case ops21 =>
   refine ⟨?_, ?_, ?_, ?_, ?_, ?_, ?_, ?_, ?_, ?_, ?_, ?_, ?_, ?_, ?_, ?_, ?_, ?_, ?_, ?_, ?_, trivial⟩
   · refine er_q ?vn1 ?hn1 ?kn1 ?gn1 ?_
     case hn1 => exact rfl
     case vn1 => exact (fun R => .agg X)
     case kn1 => exact (fun R => rfl)
     case gn1 => exact gd_none rfl
     intro R s w' hT hs hw ha
     have L := ld_all (P1.sameE hw (fun h => h) (by simp)) uWide rfl iWide sX
     generalize hA : putE _ _ _ _ _ _ _ = AA
     refine q_load rfl ?_ L
     subst hA
     kernel_rfl
   · refine er_q ?vn2 ?hn2 ?kn2 ?gn2 ?_
     case hn2 => exact rfl
     case vn2 => exact (fun R => .bool true)
     case kn2 => exact (fun R => rfl)
     case gn2 => exact gd_none rfl
     intro R s w' hT hs hw ha
     go_simp
     exact kv.out w'
   · refine er_q ?vn3 ?hn3 ?kn3 ?gn3 ?_
     case hn3 => exact rfl
     case vn3 => exact (fun R => .bool true)
     case kn3 => exact (fun R => rfl)
     case gn3 => exact gd_none rfl
     intro R s w' hT hs hw ha
     go_simp
   · refine er_q ?vn4 ?hn4 ?kn4 ?gn4 ?_
     case hn4 => exact rfl
     case vn4 => exact (fun R => .pointer (some ⟨g0, 1, none⟩))
     case kn4 => exact (fun R => rfl)
     case gn4 => (refine gd_some rfl ?_; intro R; kernel_rfl)
     intro R s w' hT hs hw ha
     go_simp
   · refine er_q ?vn5 ?hn5 ?kn5 ?gn5 ?_
     case hn5 => exact rfl
     case vn5 => exact (fun R => .pointer (some ⟨g0, 4, none⟩))
     case kn5 => exact (fun R => rfl)
     case gn5 => (refine gd_some rfl ?_; intro R; kernel_rfl)
     intro R s w' hT hs hw ha
     go_simp
   · refine er_q ?vn6 ?hn6 ?kn6 ?gn6 ?_
     case hn6 => exact rfl
     case vn6 => exact (fun R => .int .u64 (d : Int))
     case kn6 => exact (fun R => rfl)
     case gn6 => (refine gd_some rfl ?_; intro R; kernel_rfl)
     intro R s w' hT hs hw ha
     have cc := ((P1.sameE hw (fun h => h) (by simp) : Blk w' g0 _ X).cell 4).trans (f4)
     go_simp
   · refine er_q ?vn7 ?hn7 ?kn7 ?gn7 ?_
     case hn7 => exact rfl
     case vn7 => exact (fun R => .bool false)
     case kn7 => exact (fun R => rfl)
     case gn7 => (refine gd_some rfl ?_; intro R; kernel_rfl)
     intro R s w' hT hs hw ha
     go_simp
   · refine er_q ?vn8 ?hn8 ?kn8 ?gn8 ?_
     case hn8 => exact rfl
     case vn8 => exact (fun R => .bool false)
     case kn8 => exact (fun R => rfl)
     case gn8 => exact gd_none rfl
     intro R s w' hT hs hw ha
     go_simp
   · refine er_q ?vn9 ?hn9 ?kn9 ?gn9 ?_
     case hn9 => exact rfl
     case vn9 => exact (fun R => .bool false)
     case kn9 => exact (fun R => rfl)
     case gn9 => exact gd_none rfl
     intro R s w' hT hs hw ha
     go_simp
   · refine er_sk ?hn10 ?gn10
     case hn10 => exact rfl
     case gn10 => (refine gd_some rfl ?_; intro R; kernel_rfl)
   · refine er_sk ?hn11 ?gn11
     case hn11 => exact rfl
     case gn11 => (refine gd_some rfl ?_; intro R; kernel_rfl)
   · refine er_sk ?hn12 ?gn12
     case hn12 => exact rfl
     case gn12 => (refine gd_some rfl ?_; intro R; kernel_rfl)
   · refine er_sk ?hn13 ?gn13
     case hn13 => exact rfl
     case gn13 => (refine gd_some rfl ?_; intro R; kernel_rfl)
   · refine er_q ?vn14 ?hn14 ?kn14 ?gn14 ?_
     case hn14 => exact rfl
     case vn14 => exact (fun R => .bool false)
     case kn14 => exact (fun R => rfl)
     case gn14 => exact gd_none rfl
     intro R s w' hT hs hw ha
     go_simp
   · refine er_q ?vn15 ?hn15 ?kn15 ?gn15 ?_
     case hn15 => exact rfl
     case vn15 => exact (fun R => .bool false)
     case kn15 => exact (fun R => rfl)
     case gn15 => exact gd_none rfl
     intro R s w' hT hs hw ha
     go_simp
   · refine er_sk ?hn16 ?gn16
     case hn16 => exact rfl
     case gn16 => (refine gd_some rfl ?_; intro R; kernel_rfl)
   · refine er_sk ?hn17 ?gn17
     case hn17 => exact rfl
     case gn17 => (refine gd_some rfl ?_; intro R; kernel_rfl)
   · refine er_sk ?hn18 ?gn18
     case hn18 => exact rfl
     case gn18 => (refine gd_some rfl ?_; intro R; kernel_rfl)
   · refine er_sk ?hn19 ?gn19
     case hn19 => exact rfl
     case gn19 => (refine gd_some rfl ?_; intro R; kernel_rfl)
   · refine er_q ?vn20 ?hn20 ?kn20 ?gn20 ?_
     case hn20 => exact rfl
     case vn20 => exact (fun R => .bool false)
     case kn20 => exact (fun R => rfl)
     case gn20 => exact gd_none rfl
     intro R s w' hT hs hw ha
     go_simp
   · refine er_q ?vn21 ?hn21 ?kn21 ?gn21 ?_
     case hn21 => exact rfl
     case vn21 => exact (fun R => .bool false)
     case kn21 => exact (fun R => rfl)
     case gn21 => exact gd_none rfl
     intro R s w' hT hs hw ha
     go_simp
 case end21 =>
  intro sI R G w22 hI
  have hS := hI.same
  have hTT := hI.holds
  have hz0 := EE.out.size
  have P1 := P1.sameE hS (fun h => h) (by simp)
  have EE := hide (show Ext _ _ from hTT)
  clear hS hz0 hTT hI
  generalize hF : putE _ _ _ _ _ _ _ = FF
  have hF2 : FF = { tmps := #[.agg X, .pointer (some ⟨g0, 0, none⟩), .bool false, .agg X, .bool true, .bool true, .pointer (some ⟨g0, 1, none⟩), .pointer (some ⟨g0, 4, none⟩), .int .u64 (d : Int), .bool false, .bool false, .bool false, undef, undef, undef, undef, .bool false, .bool false, undef, undef, undef, undef, .bool false], defers := [] } := by subst hF; kernel_rfl
  clear hF
  subst hF2
  go_wp2_with fail
  go_ret
  exact ⟨rfl, EE.out⟩
set_option maxHeartbeats 3200000 in
set_option maxRecDepth 100000 in
theorem pc_base3 (X : Array Value) (b c d : Nat) (W : World) (sX : X.size = 5) (oX : X.all (·.oneCell') = true) (f2 : X[2]? = some (.int .u64 (b : Int))) (f3 : X[3]? = some (.int .u64 (c : Int))) (f4 : X[4]? = some (.int .u64 (d : Int))) (kv : Hid (∀ w, Calls Try.prog 64 #[.agg X] w (Ret (.bool true) w))) (hd : d = 0) (hc : c ≠ 0) :
   Calls Try.prog 37 #[.agg X] W (Ret (.bool false) W) := by
 have ed : (((d : Nat) : Int) == 0) = true := by rw [beq_iff_eq]; omega
 have ed' : decide (d = 0) = true := decide_eq_true hd
 clear hd
 have ec : (((c : Nat) : Int) == 0) = false := by rw [beq_eq_false_iff_ne]; omega
 have ec' : decide (c = 0) = false := decide_eq_false hc
 clear hc
 have P1 := Blk.new W 25 X
 have EE := hide (ext_alloc W (.cells X 25))
 obtain ⟨W1, hW1⟩ : ∃ W1, (W.alloc (.cells X 25)) = W1 := ⟨_, rfl⟩
 obtain ⟨g0, hg⟩ : ∃ g, W.heap.size = g := ⟨_, rfl⟩
 rw [hW1] at P1 EE
 rw [hg] at P1
 have P1_lo : W.heap.size ≤ g0 := by omega
 have HW := hide hW1
 have Hg := hide hg
 clear hW1 hg
 go_enter Try.func37, Try.ntmps37
 go_upto_region 1 with fail
 rw [HW.out, Hg.out]
 clear HW Hg
 have P1_lt := P1.lt
 refine wp_evs [.q, .q, .q, .q, .q, .q, .q, .q, .q, .q, .q, .q, .q, .q, .q, .sk, .sk, .sk, .sk, .q, .q] [0, 0, 0, 0, 0, 0, 0, 0, 0, 0, 0, 0, 0, 0, 0, 0, 0, 0, 0, 0, 0] (fun R => [.agg X, .bool true, .bool true, .pointer (some ⟨g0, 1, none⟩), .pointer (some ⟨g0, 4, none⟩), .int .u64 (d : Int), .bool true, .bool true, .bool true, .pointer (some ⟨g0, 1, none⟩), .pointer (some ⟨g0, 3, none⟩), .int .u64 (c : Int), .bool false, .bool false, .bool false, undef, undef, undef, undef, .bool false, .bool false]) (fun _ => (.cells #[] 0 (0, 0))) (fun R _ => (.cells #[] 0 (0, 0))) (fun _ => 0) (XE W) (fun _ => False) (by kernel_rfl) (by kernel_rfl) (by kernel_rfl) rfl (fun _ => rfl) (fun _ h => h.elim) (fun _ _ h => h) (by simp) (by simp) (fun R R' => ⟨fun _ => rfl, fun _ => rfl, fun _ => rfl, fun _ => rfl, fun _ => rfl, fun _ => rfl, fun _ => rfl, fun _ => rfl, fun _ => rfl, fun _ => rfl, fun _ => rfl, fun _ => rfl, fun _ => rfl, fun _ => rfl, fun _ => rfl, fun _ => rfl, fun _ => rfl, fun _ => rfl, fun _ => rfl, fun _ => rfl, fun _ => rfl, trivial⟩) (fun _ _ _ _ => rfl) xe_below EE.out ?ops21 ?end21
 case ops21 =>
   refine ⟨?_, ?_, ?_, ?_, ?_, ?_, ?_, ?_, ?_, ?_, ?_, ?_, ?_, ?_, ?_, ?_, ?_, ?_, ?_, ?_, ?_, trivial⟩
   · refine er_q ?vn1 ?hn1 ?kn1 ?gn1 ?_
     case hn1 => exact rfl
     case vn1 => exact (fun R => .agg X)
     case kn1 => exact (fun R => rfl)
     case gn1 => exact gd_none rfl
     intro R s w' hT hs hw ha
     have L := ld_all (P1.sameE hw (fun h => h) (by simp)) uWide rfl iWide sX
     generalize hA : putE _ _ _ _ _ _ _ = AA
     refine q_load rfl ?_ L
     subst hA
     kernel_rfl
   · refine er_q ?vn2 ?hn2 ?kn2 ?gn2 ?_
     case hn2 => exact rfl
     case vn2 => exact (fun R => .bool true)
     case kn2 => exact (fun R => rfl)
     case gn2 => exact gd_none rfl
     intro R s w' hT hs hw ha
     go_simp
     exact kv.out w'
   · refine er_q ?vn3 ?hn3 ?kn3 ?gn3 ?_
     case hn3 => exact rfl
     case vn3 => exact (fun R => .bool true)
     case kn3 => exact (fun R => rfl)
     case gn3 => exact gd_none rfl
     intro R s w' hT hs hw ha
     go_simp
   · refine er_q ?vn4 ?hn4 ?kn4 ?gn4 ?_
     case hn4 => exact rfl
     case vn4 => exact (fun R => .pointer (some ⟨g0, 1, none⟩))
     case kn4 => exact (fun R => rfl)
     case gn4 => (refine gd_some rfl ?_; intro R; kernel_rfl)
     intro R s w' hT hs hw ha
     go_simp
   · refine er_q ?vn5 ?hn5 ?kn5 ?gn5 ?_
     case hn5 => exact rfl
     case vn5 => exact (fun R => .pointer (some ⟨g0, 4, none⟩))
     case kn5 => exact (fun R => rfl)
     case gn5 => (refine gd_some rfl ?_; intro R; kernel_rfl)
     intro R s w' hT hs hw ha
     go_simp
   · refine er_q ?vn6 ?hn6 ?kn6 ?gn6 ?_
     case hn6 => exact rfl
     case vn6 => exact (fun R => .int .u64 (d : Int))
     case kn6 => exact (fun R => rfl)
     case gn6 => (refine gd_some rfl ?_; intro R; kernel_rfl)
     intro R s w' hT hs hw ha
     have cc := ((P1.sameE hw (fun h => h) (by simp) : Blk w' g0 _ X).cell 4).trans (f4)
     go_simp
   · refine er_q ?vn7 ?hn7 ?kn7 ?gn7 ?_
     case hn7 => exact rfl
     case vn7 => exact (fun R => .bool true)
     case kn7 => exact (fun R => rfl)
     case gn7 => (refine gd_some rfl ?_; intro R; kernel_rfl)
     intro R s w' hT hs hw ha
     go_simp
   · refine er_q ?vn8 ?hn8 ?kn8 ?gn8 ?_
     case hn8 => exact rfl
     case vn8 => exact (fun R => .bool true)
     case kn8 => exact (fun R => rfl)
     case gn8 => exact gd_none rfl
     intro R s w' hT hs hw ha
     go_simp
   · refine er_q ?vn9 ?hn9 ?kn9 ?gn9 ?_
     case hn9 => exact rfl
     case vn9 => exact (fun R => .bool true)
     case kn9 => exact (fun R => rfl)
     case gn9 => exact gd_none rfl
     intro R s w' hT hs hw ha
     go_simp
   · refine er_q ?vn10 ?hn10 ?kn10 ?gn10 ?_
     case hn10 => exact rfl
     case vn10 => exact (fun R => .pointer (some ⟨g0, 1, none⟩))
     case kn10 => exact (fun R => rfl)
     case gn10 => (refine gd_some rfl ?_; intro R; kernel_rfl)
     intro R s w' hT hs hw ha
     go_simp
   · refine er_q ?vn11 ?hn11 ?kn11 ?gn11 ?_
     case hn11 => exact rfl
     case vn11 => exact (fun R => .pointer (some ⟨g0, 3, none⟩))
     case kn11 => exact (fun R => rfl)
     case gn11 => (refine gd_some rfl ?_; intro R; kernel_rfl)
     intro R s w' hT hs hw ha
     go_simp
   · refine er_q ?vn12 ?hn12 ?kn12 ?gn12 ?_
     case hn12 => exact rfl
     case vn12 => exact (fun R => .int .u64 (c : Int))
     case kn12 => exact (fun R => rfl)
     case gn12 => (refine gd_some rfl ?_; intro R; kernel_rfl)
     intro R s w' hT hs hw ha
     have cc := ((P1.sameE hw (fun h => h) (by simp) : Blk w' g0 _ X).cell 3).trans (f3)
     go_simp
   · refine er_q ?vn13 ?hn13 ?kn13 ?gn13 ?_
     case hn13 => exact rfl
     case vn13 => exact (fun R => .bool false)
     case kn13 => exact (fun R => rfl)
     case gn13 => (refine gd_some rfl ?_; intro R; kernel_rfl)
     intro R s w' hT hs hw ha
     go_simp
   · refine er_q ?vn14 ?hn14 ?kn14 ?gn14 ?_
     case hn14 => exact rfl
     case vn14 => exact (fun R => .bool false)
     case kn14 => exact (fun R => rfl)
     case gn14 => exact gd_none rfl
     intro R s w' hT hs hw ha
     go_simp
   · refine er_q ?vn15 ?hn15 ?kn15 ?gn15 ?_
     case hn15 => exact rfl
     case vn15 => exact (fun R => .bool false)
     case kn15 => exact (fun R => rfl)
     case gn15 => exact gd_none rfl
     intro R s w' hT hs hw ha
     go_simp
   · refine er_sk ?hn16 ?gn16
     case hn16 => exact rfl
     case gn16 => (refine gd_some rfl ?_; intro R; kernel_rfl)
   · refine er_sk ?hn17 ?gn17
     case hn17 => exact rfl
     case gn17 => (refine gd_some rfl ?_; intro R; kernel_rfl)
   · refine er_sk ?hn18 ?gn18
     case hn18 => exact rfl
     case gn18 => (refine gd_some rfl ?_; intro R; kernel_rfl)
   · refine er_sk ?hn19 ?gn19
     case hn19 => exact rfl
     case gn19 => (refine gd_some rfl ?_; intro R; kernel_rfl)
   · refine er_q ?vn20 ?hn20 ?kn20 ?gn20 ?_
     case hn20 => exact rfl
     case vn20 => exact (fun R => .bool false)
     case kn20 => exact (fun R => rfl)
     case gn20 => exact gd_none rfl
     intro R s w' hT hs hw ha
     go_simp
   · refine er_q ?vn21 ?hn21 ?kn21 ?gn21 ?_
     case hn21 => exact rfl
     case vn21 => exact (fun R => .bool false)
     case kn21 => exact (fun R => rfl)
     case gn21 => exact gd_none rfl
     intro R s w' hT hs hw ha
     go_simp
 case end21 =>
  intro sI R G w22 hI
  have hS := hI.same
  have hTT := hI.holds
  have hz0 := EE.out.size
  have P1 := P1.sameE hS (fun h => h) (by simp)
  have EE := hide (show Ext _ _ from hTT)
  clear hS hz0 hTT hI
  generalize hF : putE _ _ _ _ _ _ _ = FF
  have hF2 : FF = { tmps := #[.agg X, .pointer (some ⟨g0, 0, none⟩), .bool false, .agg X, .bool true, .bool true, .pointer (some ⟨g0, 1, none⟩), .pointer (some ⟨g0, 4, none⟩), .int .u64 (d : Int), .bool true, .bool true, .bool true, .pointer (some ⟨g0, 1, none⟩), .pointer (some ⟨g0, 3, none⟩), .int .u64 (c : Int), .bool false, .bool false, .bool false, undef, undef, undef, undef, .bool false], defers := [] } := by subst hF; kernel_rfl
  clear hF
  subst hF2
  go_wp2_with fail
  go_ret
  exact ⟨rfl, EE.out⟩
set_option maxHeartbeats 3200000 in
set_option maxRecDepth 100000 in
theorem pc_base4 (X : Array Value) (b c d : Nat) (W : World) (sX : X.size = 5) (oX : X.all (·.oneCell') = true) (f2 : X[2]? = some (.int .u64 (b : Int))) (f3 : X[3]? = some (.int .u64 (c : Int))) (f4 : X[4]? = some (.int .u64 (d : Int))) (kv : Hid (∀ w, Calls Try.prog 64 #[.agg X] w (Ret (.bool true) w))) (hd : d = 0) (hc : c = 0) :
   Calls Try.prog 37 #[.agg X] W (Ret (.bool (decide ((b : Int) < 4))) W) := by
 have ed : (((d : Nat) : Int) == 0) = true := by rw [beq_iff_eq]; omega
 have ed' : decide (d = 0) = true := decide_eq_true hd
 clear hd
 have ec : (((c : Nat) : Int) == 0) = true := by rw [beq_iff_eq]; omega
 have ec' : decide (c = 0) = true := decide_eq_true hc
 clear hc
 have P1 := Blk.new W 25 X
 have EE := hide (ext_alloc W (.cells X 25))
 obtain ⟨W1, hW1⟩ : ∃ W1, (W.alloc (.cells X 25)) = W1 := ⟨_, rfl⟩
 obtain ⟨g0, hg⟩ : ∃ g, W.heap.size = g := ⟨_, rfl⟩
 rw [hW1] at P1 EE
 rw [hg] at P1
 have P1_lo : W.heap.size ≤ g0 := by omega
 have HW := hide hW1
 have Hg := hide hg
 clear hW1 hg
 go_enter Try.func37, Try.ntmps37
 go_upto_region 1 with fail
 rw [HW.out, Hg.out]
 clear HW Hg
 have P1_lt := P1.lt
 refine wp_evs [.q, .q, .q, .q, .q, .q, .q, .q, .q, .q, .q, .q, .q, .q, .q, .q, .q, .q, .q, .q, .q] [0, 0, 0, 0, 0, 0, 0, 0, 0, 0, 0, 0, 0, 0, 0, 0, 0, 0, 0, 0, 0] (fun R => [.agg X, .bool true, .bool true, .pointer (some ⟨g0, 1, none⟩), .pointer (some ⟨g0, 4, none⟩), .int .u64 (d : Int), .bool true, .bool true, .bool true, .pointer (some ⟨g0, 1, none⟩), .pointer (some ⟨g0, 3, none⟩), .int .u64 (c : Int), .bool true, .bool true, .bool true, .pointer (some ⟨g0, 1, none⟩), .pointer (some ⟨g0, 2, none⟩), .int .u64 (b : Int), .bool (decide ((b : Int) < 4)), .bool (decide ((b : Int) < 4)), .bool (decide ((b : Int) < 4))]) (fun _ => (.cells #[] 0 (0, 0))) (fun R _ => (.cells #[] 0 (0, 0))) (fun _ => 0) (XE W) (fun _ => False) (by kernel_rfl) (by kernel_rfl) (by kernel_rfl) rfl (fun _ => rfl) (fun _ h => h.elim) (fun _ _ h => h) (by simp) (by simp) (fun R R' => ⟨fun _ => rfl, fun _ => rfl, fun _ => rfl, fun _ => rfl, fun _ => rfl, fun _ => rfl, fun _ => rfl, fun _ => rfl, fun _ => rfl, fun _ => rfl, fun _ => rfl, fun _ => rfl, fun _ => rfl, fun _ => rfl, fun _ => rfl, fun _ => rfl, fun _ => rfl, fun _ => rfl, fun _ => rfl, fun _ => rfl, fun _ => rfl, trivial⟩) (fun _ _ _ _ => rfl) xe_below EE.out ?ops21 ?end21
 case ops21 =>
   refine ⟨?_, ?_, ?_, ?_, ?_, ?_, ?_, ?_, ?_, ?_, ?_, ?_, ?_, ?_, ?_, ?_, ?_, ?_, ?_, ?_, ?_, trivial⟩
   · refine er_q ?vn1 ?hn1 ?kn1 ?gn1 ?_
     case hn1 => exact rfl
     case vn1 => exact (fun R => .agg X)
     case kn1 => exact (fun R => rfl)
     case gn1 => exact gd_none rfl
     intro R s w' hT hs hw ha
     have L := ld_all (P1.sameE hw (fun h => h) (by simp)) uWide rfl iWide sX
     generalize hA : putE _ _ _ _ _ _ _ = AA
     refine q_load rfl ?_ L
     subst hA
     kernel_rfl
   · refine er_q ?vn2 ?hn2 ?kn2 ?gn2 ?_
     case hn2 => exact rfl
     case vn2 => exact (fun R => .bool true)
     case kn2 => exact (fun R => rfl)
     case gn2 => exact gd_none rfl
     intro R s w' hT hs hw ha
     go_simp
     exact kv.out w'
   · refine er_q ?vn3 ?hn3 ?kn3 ?gn3 ?_
     case hn3 => exact rfl
     case vn3 => exact (fun R => .bool true)
     case kn3 => exact (fun R => rfl)
     case gn3 => exact gd_none rfl
     intro R s w' hT hs hw ha
     go_simp
   · refine er_q ?vn4 ?hn4 ?kn4 ?gn4 ?_
     case hn4 => exact rfl
     case vn4 => exact (fun R => .pointer (some ⟨g0, 1, none⟩))
     case kn4 => exact (fun R => rfl)
     case gn4 => (refine gd_some rfl ?_; intro R; kernel_rfl)
     intro R s w' hT hs hw ha
     go_simp
   · refine er_q ?vn5 ?hn5 ?kn5 ?gn5 ?_
     case hn5 => exact rfl
     case vn5 => exact (fun R => .pointer (some ⟨g0, 4, none⟩))
     case kn5 => exact (fun R => rfl)
     case gn5 => (refine gd_some rfl ?_; intro R; kernel_rfl)
     intro R s w' hT hs hw ha
     go_simp
   · refine er_q ?vn6 ?hn6 ?kn6 ?gn6 ?_
     case hn6 => exact rfl
     case vn6 => exact (fun R => .int .u64 (d : Int))
     case kn6 => exact (fun R => rfl)
     case gn6 => (refine gd_some rfl ?_; intro R; kernel_rfl)
     intro R s w' hT hs hw ha
     have cc := ((P1.sameE hw (fun h => h) (by simp) : Blk w' g0 _ X).cell 4).trans (f4)
     go_simp
   · refine er_q ?vn7 ?hn7 ?kn7 ?gn7 ?_
     case hn7 => exact rfl
     case vn7 => exact (fun R => .bool true)
     case kn7 => exact (fun R => rfl)
     case gn7 => (refine gd_some rfl ?_; intro R; kernel_rfl)
     intro R s w' hT hs hw ha
     go_simp
   · refine er_q ?vn8 ?hn8 ?kn8 ?gn8 ?_
     case hn8 => exact rfl
     case vn8 => exact (fun R => .bool true)
     case kn8 => exact (fun R => rfl)
     case gn8 => exact gd_none rfl
     intro R s w' hT hs hw ha
     go_simp
   · refine er_q ?vn9 ?hn9 ?kn9 ?gn9 ?_
     case hn9 => exact rfl
     case vn9 => exact (fun R => .bool true)
     case kn9 => exact (fun R => rfl)
     case gn9 => exact gd_none rfl
     intro R s w' hT hs hw ha
     go_simp
   · refine er_q ?vn10 ?hn10 ?kn10 ?gn10 ?_
     case hn10 => exact rfl
     case vn10 => exact (fun R => .pointer (some ⟨g0, 1, none⟩))
     case kn10 => exact (fun R => rfl)
     case gn10 => (refine gd_some rfl ?_; intro R; kernel_rfl)
     intro R s w' hT hs hw ha
     go_simp
   · refine er_q ?vn11 ?hn11 ?kn11 ?gn11 ?_
     case hn11 => exact rfl
     case vn11 => exact (fun R => .pointer (some ⟨g0, 3, none⟩))
     case kn11 => exact (fun R => rfl)
     case gn11 => (refine gd_some rfl ?_; intro R; kernel_rfl)
     intro R s w' hT hs hw ha
     go_simp
   · refine er_q ?vn12 ?hn12 ?kn12 ?gn12 ?_
     case hn12 => exact rfl
     case vn12 => exact (fun R => .int .u64 (c : Int))
     case kn12 => exact (fun R => rfl)
     case gn12 => (refine gd_some rfl ?_; intro R; kernel_rfl)
     intro R s w' hT hs hw ha
     have cc := ((P1.sameE hw (fun h => h) (by simp) : Blk w' g0 _ X).cell 3).trans (f3)
     go_simp
   · refine er_q ?vn13 ?hn13 ?kn13 ?gn13 ?_
     case hn13 => exact rfl
     case vn13 => exact (fun R => .bool true)
     case kn13 => exact (fun R => rfl)
     case gn13 => (refine gd_some rfl ?_; intro R; kernel_rfl)
     intro R s w' hT hs hw ha
     go_simp
   · refine er_q ?vn14 ?hn14 ?kn14 ?gn14 ?_
     case hn14 => exact rfl
     case vn14 => exact (fun R => .bool true)
     case kn14 => exact (fun R => rfl)
     case gn14 => exact gd_none rfl
     intro R s w' hT hs hw ha
     go_simp
   · refine er_q ?vn15 ?hn15 ?kn15 ?gn15 ?_
     case hn15 => exact rfl
     case vn15 => exact (fun R => .bool true)
     case kn15 => exact (fun R => rfl)
     case gn15 => exact gd_none rfl
     intro R s w' hT hs hw ha
     go_simp
   · refine er_q ?vn16 ?hn16 ?kn16 ?gn16 ?_
     case hn16 => exact rfl
     case vn16 => exact (fun R => .pointer (some ⟨g0, 1, none⟩))
     case kn16 => exact (fun R => rfl)
     case gn16 => (refine gd_some rfl ?_; intro R; kernel_rfl)
     intro R s w' hT hs hw ha
     go_simp
   · refine er_q ?vn17 ?hn17 ?kn17 ?gn17 ?_
     case hn17 => exact rfl
     case vn17 => exact (fun R => .pointer (some ⟨g0, 2, none⟩))
     case kn17 => exact (fun R => rfl)
     case gn17 => (refine gd_some rfl ?_; intro R; kernel_rfl)
     intro R s w' hT hs hw ha
     go_simp
   · refine er_q ?vn18 ?hn18 ?kn18 ?gn18 ?_
     case hn18 => exact rfl
     case vn18 => exact (fun R => .int .u64 (b : Int))
     case kn18 => exact (fun R => rfl)
     case gn18 => (refine gd_some rfl ?_; intro R; kernel_rfl)
     intro R s w' hT hs hw ha
     have cc := ((P1.sameE hw (fun h => h) (by simp) : Blk w' g0 _ X).cell 2).trans (f2)
     go_simp
   · refine er_q ?vn19 ?hn19 ?kn19 ?gn19 ?_
     case hn19 => exact rfl
     case vn19 => exact (fun R => .bool (decide ((b : Int) < 4)))
     case kn19 => exact (fun R => rfl)
     case gn19 => (refine gd_some rfl ?_; intro R; kernel_rfl)
     intro R s w' hT hs hw ha
     go_simp
   · refine er_q ?vn20 ?hn20 ?kn20 ?gn20 ?_
     case hn20 => exact rfl
     case vn20 => exact (fun R => .bool (decide ((b : Int) < 4)))
     case kn20 => exact (fun R => rfl)
     case gn20 => exact gd_none rfl
     intro R s w' hT hs hw ha
     go_simp
   · refine er_q ?vn21 ?hn21 ?kn21 ?gn21 ?_
     case hn21 => exact rfl
     case vn21 => exact (fun R => .bool (decide ((b : Int) < 4)))
     case kn21 => exact (fun R => rfl)
     case gn21 => exact gd_none rfl
     intro R s w' hT hs hw ha
     go_simp
 case end21 =>
  intro sI R G w22 hI
  have hS := hI.same
  have hTT := hI.holds
  have hz0 := EE.out.size
  have P1 := P1.sameE hS (fun h => h) (by simp)
  have EE := hide (show Ext _ _ from hTT)
  clear hS hz0 hTT hI
  generalize hF : putE _ _ _ _ _ _ _ = FF
  have hF2 : FF = { tmps := #[.agg X, .pointer (some ⟨g0, 0, none⟩), .bool (decide ((b : Int) < 4)), .agg X, .bool true, .bool true, .pointer (some ⟨g0, 1, none⟩), .pointer (some ⟨g0, 4, none⟩), .int .u64 (d : Int), .bool true, .bool true, .bool true, .pointer (some ⟨g0, 1, none⟩), .pointer (some ⟨g0, 3, none⟩), .int .u64 (c : Int), .bool true, .bool true, .bool true, .pointer (some ⟨g0, 1, none⟩), .pointer (some ⟨g0, 2, none⟩), .int .u64 (b : Int), .bool (decide ((b : Int) < 4)), .bool (decide ((b : Int) < 4))], defers := [] } := by subst hF; kernel_rfl
  clear hF
  subst hF2
  go_wp2_with fail
  go_ret
  exact ⟨rfl, EE.out⟩
theorem isBase_big {s : Bool} {a b c d : Nat} {x : Int} (h : IsW s a b c d x) : (d = 0 ∧ c = 0 ∧ b < 4) ↔ x.natAbs < 73786976294838206464 := by
 have e := h.abs
 have h0 := h.1
 have h1 := h.2.1
 have h2 := h.2.2.1
 have h3 := h.2.2.2.1
 simp only [mag4, val] at e
 constructor
 · rintro ⟨rfl, rfl, hb⟩; omega
 · intro hx
   refine ⟨?_, ?_, ?_⟩ <;> omega
theorem p_base {s : Bool} {a b c d : Nat} {x : Int} (h : IsW s a b c d x) (v : Bool) (kv : ∀ w, Calls Try.prog 64 #[.agg #[.bool s, .int .u64 (a : Int), .int .u64 (b : Int), .int .u64 (c : Int), .int .u64 (d : Int)]] w (Ret (.bool v) w)) (w : World) :
   Calls Try.prog 37 #[.agg #[.bool s, .int .u64 (a : Int), .int .u64 (b : Int), .int .u64 (c : Int), .int .u64 (d : Int)]] w (Ret (.bool (v && decide (x.natAbs < 73786976294838206464))) w) := by
 have hb := isBase_big h
 cases v with
 | false => exact pc_base1 _ b c d w rfl (by kernel_rfl) rfl rfl rfl (hide kv)
 | true =>
   by_cases hd : d = 0
   · by_cases hc : c = 0
     · have := pc_base4 _ b c d w rfl (by kernel_rfl) rfl rfl rfl (hide kv) hd hc
       have e : decide ((b : Int) < 4) = (true && decide (x.natAbs < 73786976294838206464)) := by
         rw [Bool.true_and]
         by_cases q : b < 4
         · rw [decide_eq_true (hb.1 ⟨hd, hc, q⟩), decide_eq_true (by omega)]
         · rw [decide_eq_false (fun z => q (hb.2 z).2.2), decide_eq_false (by omega)]
       rw [e] at this
       exact this
     · rw [decide_eq_false (fun z => hc (hb.2 z).2.1)]
       exact pc_base3 _ b c d w rfl (by kernel_rfl) rfl rfl rfl (hide kv) hd hc
   · rw [decide_eq_false (fun z => hd (hb.2 z).1)]
     exact pc_base2 _ b c d w rfl (by kernel_rfl) rfl rfl rfl (hide kv) hd
end
section
open Go Go.RowKit
theorem WideRet.ext {z : Int} {w W : World} {e : Ending} {w' : World} (h : WideRet z W e w') (k : Ext w W) : WideRet z w e w' := by
 obtain ⟨s, a, b, c, d, o, h1, h2, h3, h4⟩ := h
 exact ⟨s, a, b, c, d, o, h1, h2, h3, k.trans h4⟩
set_option maxHeartbeats 4000000 in
theorem p_wsub (s t : Bool) (a b c d e f g h : Nat) (x y : Int) (w : World) (hx : IsW s a b c d x) (hy : IsW t e f g h y) :
   Calls Try.prog 38 #[.agg #[.bool s, .int .u64 (a : Int), .int .u64 (b : Int), .int .u64 (c : Int), .int .u64 (d : Int)], .agg #[.bool t, .int .u64 (e : Int), .int .u64 (f : Int), .int .u64 (g : Int), .int .u64 (h : Int)]] w (WideRet (x - y) w) := by
 obtain ⟨W, hW⟩ : ∃ W, W = (((w.alloc (.cells #[.bool s, .int .u64 (a : Int), .int .u64 (b : Int), .int .u64 (c : Int), .int .u64 (d : Int)] 25)).alloc (.cells #[.bool t, .int .u64 (e : Int), .int .u64 (f : Int), .int .u64 (g : Int), .int .u64 (h : Int)] 25)).alloc (.cells #[.bool false, .int .u64 0, .int .u64 0, .int .u64 0, .int .u64 0] 25)) := ⟨_, rfl⟩
 have H3 := three_boxes w (.cells #[.bool s, .int .u64 (a : Int), .int .u64 (b : Int), .int .u64 (c : Int), .int .u64 (d : Int)] 25) (.cells #[.bool t, .int .u64 (e : Int), .int .u64 (f : Int), .int .u64 (g : Int), .int .u64 (h : Int)] 25) (.cells #[.bool false, .int .u64 0, .int .u64 0, .int .u64 0, .int .u64 0] 25)
 rw [← hW] at H3
 have B0 : Box W w.heap.size s a b c d := H3.1
 have B1 : Box W (w.heap.size + 1) t e f g h := H3.2.1
 have B2 : Box W (w.heap.size + 1 + 1) false 0 0 0 0 := H3.2.2
 have E0 : Ext w W := by rw [hW]; exact ((ext_alloc _ _).trans (ext_alloc _ _)).trans (ext_alloc _ _)
 have HW := hide hW
 clear hW H3
 have HZ : Hid (x + -y = x - y) := by unfold Hid; omega
 obtain ⟨c0, c1, c2, c3, c4, f0, f1, f2, f3, f4⟩ := five_cells B0
 obtain ⟨d0, d1, d2, d3, d4, g0, g1, g2, g3, g4⟩ := five_cells B1
 go_enter Try.func38, Try.ntmps38
 go_upto_region 1 with fail
 rw [← HW.out]
 clear HW
 go_region_with (first
   | (go_at_call 65; refine (p_neg t e f g h y _ hy).mono ?_; rintro e' w' ⟨t', e1, f1', g1', h1', rfl, hC, hE⟩; have R0 := B0.drew.ext hE; have R2 := B2.drew.ext hE; obtain ⟨c0, c1, c2, c3, c4, f0, f1, f2, f3, f4⟩ := five_cells R0; have E1 := (E0.trans (ext_drew _)).trans hE; clear hE)
   | (go_at_call 40; refine (p_wadd s t' a b c d e1 f1' g1' h1' x (-y) _ hx hC.1).mono ?_; rintro e' w' ⟨s', a', b', c', d', o, rfl, ho, hK, hE⟩; rw [HZ.out] at ho hK; have Ho := hide ho; clear ho; have E2 := E1.trans hE; have R3 := R2.ext hE; obtain ⟨i0, i1, i2, i3, i4, j0, j1, j2, j3, j4⟩ := five_cells R3; clear hE))
 all_goals go_wp2_with fail
 all_goals exact bodyPost_ret (v := .tuple #[.agg #[.bool s', .int .u64 (a' : Int), .int .u64 (b' : Int), .int .u64 (c' : Int), .int .u64 (d' : Int)], .bool o]) (by simp [results, Try.results38, go_sem, i0, i1, i2, i3, i4]) rfl ⟨s', a', b', c', d', o, rfl, Ho.out, hK, ext_five E2 (by omega) _ _ _ _ _⟩
end
section
open Go Go.RowKit Go.Sort
theorem base10 (w : World) : Calls Try.prog 37 #[.agg (wC 10)] w (Ret (.bool true) w) :=
 pc_base4 (wC 10) (l1 10) (l2 10) (l3 10) w rfl (wC_one _) rfl rfl rfl (hide (fun w => c_valid (by unfold F256; omega) w)) (by decide) (by decide)
theorem c_sub' {x y z : Int} (hx : F256 x) (hy : F256 y) (e : x - y = z) (hz : F256 z) (w : World) : Calls Try.prog 38 #[.agg #[.bool (sg x), .int .u64 (l0 x : Int), .int .u64 (l1 x : Int), .int .u64 (l2 x : Int), .int .u64 (l3 x : Int)], .agg #[.bool (sg y), .int .u64 (l0 y : Int), .int .u64 (l1 y : Int), .int .u64 (l2 y : Int), .int .u64 (l3 y : Int)]] w (Ret (.tuple #[.agg #[.bool (sg z), .int .u64 (l0 z : Int), .int .u64 (l1 z : Int), .int .u64 (l2 z : Int), .int .u64 (l3 z : Int)], .bool true]) w) :=
 (p_wsub _ _ _ _ _ _ _ _ _ _ x y w (isC_of hx).1 (isC_of hy).1).mono fun _ _ h => ret_pair (by rw [e] at h; exact h) hz
theorem l_known13q (W : World) : Calls Try.prog 12 #[] W (Ret (.bool true) W) := by
 have hc : okC (.cl (2, 1) (3, 1)) := by unfold okC okF leF; decide +kernel
 have hr : thruC 10 20 2 (4 : Nat) = .cl (2, 1) (3, 1) := by
   have a : redF (20 - 10 - 2) ((4 : Nat) : Int) = (2, 1) := by decide +kernel
   have b : redF (20 - 10 + 2) ((4 : Nat) : Int) = (3, 1) := by decide +kernel
   unfold thruC
   rw [a, b]
 have hg : ThrGood 10 2 4 := by decide
 have h3 : okF (3, 1) := by unfold okF; decide +kernel
 have h4 : okF (4, 1) := by unfold okF; decide +kernel
 have P := p_all
 have hS := fun w => pc_start w
 have hok : okF (redF (20 - 10 - 2) ((4 : Nat) : Int)) ∧ okF (redF (20 - 10 + 2) ((4 : Nat) : Int)) := by
   have h := hc
   rw [← hr] at h
   exact ⟨h.1, h.2.1⟩
 have kt := fun w => pc_through (wC 10) (wC 20) (wC (20 - 10)) (wC 2) (wC (20 - 10 - 2)) (wC (20 - 10 + 2)) (wC ((4 : Nat) : Int)) (frC (redF (20 - 10 - 2) ((4 : Nat) : Int))) (frC (redF (20 - 10 + 2) ((4 : Nat) : Int))) 20 2 4 true true true true true w rfl (wC_one _) rfl (wC_one _) rfl (wC_one _) rfl (wC_one _) (frC_rc _) (frC_rc _) (by omega) (by omega) (by omega) (by omega)
   (hide (fun w => base10 w)) (hide (fun w => c_ofi (by omega) (by omega) w)) (hide (fun w => c_sub' (by unfold F256; omega) (by unfold F256; omega) rfl (by unfold F256; omega) w)) (hide (fun w => c_ofi (by omega) (by omega) w)) (hide (fun w => c_sub' (by unfold F256; omega) (by unfold F256; omega) rfl (by unfold F256; omega) w)) (hide (fun w => c_add (by unfold F256; omega) (by unfold F256; omega) rfl (by unfold F256; omega) w)) (hide (fun w => c_ofu (by omega) w)) (hide (fun w => g_make (by unfold F256; omega) (by unfold F256; omega) (by omega) (redF_mkB hok.1) rfl rfl w)) (hide (fun w => g_make (by unfold F256; omega) (by unfold F256; omega) (by omega) (redF_mkB hok.2) rfl rfl w))
 change ∀ w, Calls _ _ _ w (Ret (.tuple #[.agg (cnC (thruC 10 20 2 (4 : Nat))), .bool true]) w) at kt
 rw [hr] at kt
 obtain ⟨s, hs, ks⟩ := P.h _ hc
 obtain rfl := choose_uniq hc hs best_known
 have ka := P.c _ (3, 1) hc h3
 have kb := P.c _ (4, 1) hc h4
 rw [show decide (inC (.cl (2, 1) (3, 1)) (3, 1)) = true from by decide] at ka
 rw [show decide (inC (.cl (2, 1) (3, 1)) (4, 1)) = false from by decide] at kb
 exact l_known13r (wC 10) (cnC (.cl (2, 1) (3, 1))) (frC (2, 1)) (frC (3, 1)) (frC (4, 1)) W (cnC_size _) (cnC_one _) (fun w => cnC_eq _ w) (fun w => eq_rat (frC_rc _) w) (hide (fun w => d_ofi (by omega) (by omega) w)) (hide kt) (hide hS) (hide (P.m _ .op hc trivial)) (hide ks) (hide (fun w => h_of (by omega) (by omega) w)) (hide (P.v _ hc)) (hide (fun w => h_of (by omega) (by omega) w)) (hide (fun w => h_of (by omega) (by omega) w)) (hide ka) (hide kb)
end
section
open Go Go.RowKit Go.Sort
theorem l_known13p (W : World) : Calls Try.prog 12 #[] W (Ret (.bool true) W) := l_known13q W
end
section
open Go Go.RowKit Go.Sort
theorem c_sub {x y z : Int} (hx : F256 x) (hy : F256 y) (e : x - y = z) (hz : F256 z) (w : World) : Calls Try.prog 38 #[.agg #[.bool (sg x), .int .u64 (l0 x : Int), .int .u64 (l1 x : Int), .int .u64 (l2 x : Int), .int .u64 (l3 x : Int)], .agg #[.bool (sg y), .int .u64 (l0 y : Int), .int .u64 (l1 y : Int), .int .u64 (l2 y : Int), .int .u64 (l3 y : Int)]] w (Ret (.tuple #[.agg #[.bool (sg z), .int .u64 (l0 z : Int), .int .u64 (l1 z : Int), .int .u64 (l2 z : Int), .int .u64 (l3 z : Int)], .bool true]) w) :=
 (p_wsub _ _ _ _ _ _ _ _ _ _ x y w (isC_of hx).1 (isC_of hy).1).mono fun _ _ h => ret_pair (by rw [e] at h; exact h) hz
theorem makeP {n d : Int} (hn : F256 n) (hd : F256 d) (h0 : d ≠ 0) (h : okF (redF n d)) (w : World) : Calls Try.prog 41 #[.agg (wC n), .agg (wC d)] w (Ret (.tuple #[.agg (frC (redF n d)), .bool true]) w) := g_make hn hd h0 (redF_mkB h) rfl rfl w
theorem p_thr : PThr 17 := fun base v eps dt hb v1 v2 e1 e2 hd w => by
 have kb : ∀ w, Calls Try.prog 37 #[.agg (wC base)] w (Ret (.bool (decide (base.natAbs < 73786976294838206464))) w) := fun w => p_base (isC_of hb).1 true (fun w => c_valid hb w) w
 by_cases g1 : base.natAbs < 73786976294838206464
 · rw [decide_eq_true g1] at kb
   by_cases ge : 0 ≤ eps
   · by_cases ge2 : eps ≤ 4611686018427387904
     · by_cases g3 : 0 < dt
       · have hg : ThrGood base eps dt := ⟨g1, ge, ge2, g3⟩
         have hok := thru_ok (base := base) (v := v) (eps := eps) (dt := (dt : Int)) g1 v1 v2 ge ge2 (by omega) (by omega)
         have hv : F256 v := by unfold F256; omega
         have he : F256 eps := by unfold F256; omega
         have hq : F256 (v - base) := by unfold F256; omega
         have hlo : F256 (v - base - eps) := by unfold F256; omega
         have hhi : F256 (v - base + eps) := by unfold F256; omega
         have hdd : F256 (dt : Int) := by unfold F256; omega
         rw [show thrC base v eps dt = cnC (thruC base v eps dt) from if_pos hg, decide_eq_true hg]
         exact pc_through (wC base) (wC v) (wC (v - base)) (wC eps) (wC (v - base - eps)) (wC (v - base + eps)) (wC (dt : Int)) (frC (redF (v - base - eps) dt)) (frC (redF (v - base + eps) dt)) v eps dt true true true true true w rfl (wC_one _) rfl (wC_one _) rfl (wC_one _) rfl (wC_one _) (frC_rc _) (frC_rc _) ge ge2 g3 hd
           (hide kb) (hide (fun w => c_ofi v1 v2 w)) (hide (fun w => c_sub hv hb rfl hq w)) (hide (fun w => c_ofi e1 e2 w)) (hide (fun w => c_sub hq he rfl hlo w)) (hide (fun w => c_add hq he rfl hhi w)) (hide (fun w => c_ofu hd w)) (hide (fun w => makeP hlo hdd (by omega) hok.1 w)) (hide (fun w => makeP hhi hdd (by omega) hok.2.1 w))
       · have hg : ¬ ThrGood base eps dt := fun h => g3 h.2.2.2
         rw [show thrC base v eps dt = z21 from if_neg hg, decide_eq_false hg]
         obtain rfl : dt = 0 := by omega
         exact pc_through4 (wC base) v eps 0 w rfl (wC_one _) (hide kb) ge ge2
     · have hg : ¬ ThrGood base eps dt := fun h => ge2 h.2.2.1
       rw [show thrC base v eps dt = z21 from if_neg hg, decide_eq_false hg]
       exact pc_through3 (wC base) v eps dt w rfl (wC_one _) (hide kb) (by omega)
   · have hg : ¬ ThrGood base eps dt := fun h => ge h.2.1
     rw [show thrC base v eps dt = z21 from if_neg hg, decide_eq_false hg]
     exact pc_through2 (wC base) v eps dt w rfl (wC_one _) (hide kb) (by omega)
 · have hg : ¬ ThrGood base eps dt := fun h => g1 h.1
   rw [decide_eq_false g1] at kb
   rw [show thrC base v eps dt = z21 from if_neg hg, decide_eq_false hg]
   exact pc_through1 (wC base) v eps dt w rfl (wC_one _) (hide kb)
theorem p_thrR : RThr 17 := fun s a b c d x h hg v eps dt w =>
 pc_through1 #[.bool s, .int .u64 (a : Int), .int .u64 (b : Int), .int .u64 (c : Int), .int .u64 (d : Int)] v eps dt w rfl (by kernel_rfl) (hide (fun w => p_base h false (fun w => (p_valid s a b c d x w h).mono fun _ _ k => by
   have e : (!s || decide (x ≠ 0)) = false := by
     unfold Good at hg
     cases s
     · exact absurd (fun q => by cases q) hg
     · by_cases q : x = 0
       · rw [decide_eq_false (fun p => p q)]; rfl
       · exact absurd (fun _ => q) hg
   rw [e] at k
   exact k) w))
end
section
open Go Go.RowKit
theorem shr_cast' (u m : Nat) : (u : Int) / 2 ^ m = ((u >>> m : Nat) : Int) := by rw [Nat.shiftRight_eq_div_pow]; simp
theorem shr_le' {u q k : Nat} (hu : u < 18446744073709551616) (h : k ≤ q) : u >>> q ≤ 18446744073709551615 / 2 ^ k := by
 rw [Nat.shiftRight_eq_div_pow]
 exact Nat.le_trans (Nat.div_le_div_left (Nat.pow_le_pow_right (by omega) h) (Nat.two_pow_pos k)) (Nat.div_le_div_right (by omega))
def Tol (v : Int) : Prop := 0 ≤ v ∧ v ≤ 4611686018427387904
set_option maxHeartbeats 3200000 in
set_option maxRecDepth 100000 in
theorem t_tol (B b : Nat) (W w : World) (hT : TapeOk B w b) (hU : Upd b W w) : Calls Try.prog 15 #[.pointer (some ⟨b, 0, none⟩)] w (NextPost B b Tol .i64 W) := by
 have i8 : I64 8 := ⟨by omega, by omega⟩
 have i2 : I64 2 := ⟨by omega, by omega⟩
 have i60 : I64 60 := ⟨by omega, by omega⟩
 have i30 : I64 30 := ⟨by omega, by omega⟩
 have HT := hide hT
 have HU := hide hU
 clear hT hU
 go_enter Try.func15, Try.ntmps15
 go_upto_region 2 with (go_at_call 9; (with_reducible refine (t_next B b 8 _ i8 HT.out).mono ?_); rintro e w1 ⟨x, rfl, hx, T1, u1⟩; have T1 := hide T1; have U1 := hide (HU.out.trans u1); have x0 := hx.1; clear hx u1 HT HU)
 by_cases h0 : x = 0
 · have d0 : (x == 0) = true := by rw [beq_iff_eq]; exact h0
   clear h0 x0
   go_wp2_with fail
   go_ret
   exact ⟨0, rfl, ⟨by omega, by omega⟩, T1.out, U1.out⟩
 have d0 : (x == 0) = false := by rw [beq_eq_false_iff_ne]; exact h0
 by_cases h1 : x = 1
 · have d1 : (x == 1) = true := by rw [beq_iff_eq]; exact h1
   clear h0 x0 h1
   go_upto_region 5 with fail
   go_upto_region 9 with (go_at_call 9; (with_reducible refine (t_next B b 2 _ i2 T1.out).mono ?_); rintro e w2 ⟨y, rfl, hy, T2, u2⟩; have T2 := hide T2; have U2 := hide (U1.out.trans u2); have y0 := hy.1; have y1 := hy.2.1 (by omega); obtain ⟨z, hz⟩ : ∃ z, 4611686018427387904 - y = z := ⟨_, rfl⟩; have z1 : 0 ≤ z := (by omega); have z2 : z ≤ 4611686018427387904 := (by omega); clear hy u2 T1 U1 y0 y1)
   go_ret
   exact ⟨z, rfl, ⟨z1, z2⟩, T2.out, U2.out⟩
 have d1 : (x == 1) = false := by rw [beq_eq_false_iff_ne]; exact h1
 by_cases h2 : x = 2
 · have d2 : (x == 2) = true := by rw [beq_iff_eq]; exact h2
   clear h0 x0 h1 h2
   go_upto_region 7 with fail
   go_wp2_with (first
     | (go_at_call 8; (with_reducible refine (t_word B b _ T1.out).mono ?_); rintro e w3 ⟨u, rfl, hu, T3, u3⟩; obtain ⟨xw, rfl⟩ := Int.eq_ofNat_of_zero_le hu.1; have hxw : xw < 18446744073709551616 := (by have := hu.2; omega); have T3 := hide T3; have U3 := hide (U1.out.trans u3); clear hu u3 T1 U1)
     | (go_at_call 9; (with_reducible refine (t_next B b 60 _ i60 T3.out).mono ?_); rintro e w4 ⟨s, rfl, hs, T4, u4⟩; obtain ⟨y, rfl⟩ := Int.eq_ofNat_of_zero_le hs.1; have hy : y < 60 := (by have := hs.2.1 (by omega); omega); obtain ⟨q, hq⟩ : ∃ q : Nat, 2 + y = q := ⟨_, rfl⟩; have eq1 : (2 : Int) + (y : Int) = (q : Int) := (by omega); have hr := shr_le' (q := q) (k := 2) hxw (by omega); have e1 := shr_cast' xw q; obtain ⟨r, hrr⟩ : ∃ r, xw >>> q = r := ⟨_, rfl⟩; rw [hrr] at e1 hr; have hr2 : r ≤ 4611686018427387904 := (Nat.le_trans hr (by decide)); have hq2 : q ≤ 64 := (by omega); clear hq hr hrr; have T4 := hide T4; have U4 := hide (U3.out.trans u4); clear hs u4 T3 U3))
   go_ret
   exact ⟨r, by go_num, ⟨by omega, by omega⟩, T4.out, U4.out⟩
 have d2 : (x == 2) = false := by rw [beq_eq_false_iff_ne]; exact h2
 clear h0 x0 h1 h2
 go_wp2_with (go_at_call 9; (with_reducible refine (t_next B b 30 _ i30 T1.out).mono ?_); rintro e w2 ⟨y, rfl, hy, T2, u2⟩; have T2 := hide T2; have U2 := hide (U1.out.trans u2); have y0 := hy.1; have y1 := hy.2.1 (by omega); clear hy u2 T1 U1)
 go_ret
 exact ⟨y, rfl, ⟨y0, by omega⟩, T2.out, U2.out⟩
end
section
open Go Go.RowKit Go.Sort
attribute [local go_sem] qUpon eUpon putE slE
theorem near_row {r z : Nat} (hr : r < 18446744073709551616) (hz : z < 5) : ∃ Z : Int, F256 Z ∧ (#[.bool false, .int .u64 (r : Int), .int .u64 (z : Int), .int .u64 0, .int .u64 0] : Array Value) = wC Z := by
 have h : IsW false r z 0 0 ((mag4 r z 0 0 : Nat) : Int) := ⟨hr, by omega, by omega, by omega, rfl⟩
 obtain ⟨h1, h2, h3, h4, h5⟩ := isC_fix (show IsC false r z 0 0 _ from ⟨h, fun e => by cases e⟩)
 refine ⟨_, isW_F256 h, ?_⟩
 unfold wC
 rw [← h1, ← h2, ← h3, ← h4, ← h5]
 rfl
def wX (s : Bool) (a b c d : Nat) : Array Value := #[.bool s, .int .u64 (a : Int), .int .u64 (b : Int), .int .u64 (c : Int), .int .u64 (d : Int)]
structure TF (b : Nat) (W1 : World) (g0 g4 : Nat) (X N : Array Value) (w : World) : Prop where
 t : TapeOk b w b
 u : Upd b W1 w
 p : Blk w g0 25 X
 q : Blk w g4 25 N
 n0 : g0 ≠ b
 n4 : g4 ≠ b
theorem TF.ext {b : Nat} {W1 : World} {g0 g4 : Nat} {X N : Array Value} {w w' : World} (h : TF b W1 g0 g4 X N w) (k : Ext w w') : TF b W1 g0 g4 X N w' := ⟨h.t.ext k, h.u.trans (Ext.upd k b), h.p.ext k, h.q.ext k, h.n0, h.n4⟩
theorem TF.upd {b : Nat} {W1 : World} {g0 g4 : Nat} {X N : Array Value} {w w' : World} (h : TF b W1 g0 g4 X N w) (ht : TapeOk b w' b) (k : Upd b w w') : TF b W1 g0 g4 X N w' := ⟨ht, h.u.trans k, (k.2.2.2.2 g0 h.p.lt h.n0).trans h.p, (k.2.2.2.2 g4 h.q.lt h.n4).trans h.q, h.n0, h.n4⟩
theorem wX_cells {w : World} {g : Nat} {s : Bool} {a b c d : Nat} (h : Blk w g 25 (wX s a b c d)) : w.cell? ⟨g, 0, none⟩ = some (.bool s) ∧ w.cell? ⟨g, 1, none⟩ = some (.int .u64 (a : Int)) ∧ w.cell? ⟨g, 2, none⟩ = some (.int .u64 (b : Int)) ∧ w.cell? ⟨g, 3, none⟩ = some (.int .u64 (c : Int)) ∧ w.cell? ⟨g, 4, none⟩ = some (.int .u64 (d : Int)) := ⟨h.cell 0, h.cell 1, h.cell 2, h.cell 3, h.cell 4⟩
theorem TF.cells {b : Nat} {W1 : World} {g0 g4 : Nat} {s : Bool} {a0 b0 c0 d0 : Nat} {s1 : Bool} {a1 b1 c1 d1 : Nat} {w : World} (h : TF b W1 g0 g4 (wX s a0 b0 c0 d0) (wX s1 a1 b1 c1 d1) w) : (w.cell? ⟨g0, 0, none⟩ = some (.bool s) ∧ w.cell? ⟨g0, 1, none⟩ = some (.int .u64 (a0 : Int)) ∧ w.cell? ⟨g0, 2, none⟩ = some (.int .u64 (b0 : Int)) ∧ w.cell? ⟨g0, 3, none⟩ = some (.int .u64 (c0 : Int)) ∧ w.cell? ⟨g0, 4, none⟩ = some (.int .u64 (d0 : Int))) ∧ w.cell? ⟨g4, 0, none⟩ = some (.bool s1) ∧ w.cell? ⟨g4, 1, none⟩ = some (.int .u64 (a1 : Int)) ∧ w.cell? ⟨g4, 2, none⟩ = some (.int .u64 (b1 : Int)) ∧ w.cell? ⟨g4, 3, none⟩ = some (.int .u64 (c1 : Int)) ∧ w.cell? ⟨g4, 4, none⟩ = some (.int .u64 (d1 : Int)) := ⟨wX_cells h.p, wX_cells h.q⟩
theorem tol_i64 {v : Int} (h : Tol v) : I64 v := ⟨by have := h.1; omega, by have := h.2; omega⟩
theorem f256_i64 {u : Int} (h : I64 u) : F256 u := by
 have h1 := h.1
 have h2 := h.2
 unfold F256; omega
theorem wrap_nat {n : Nat} (h : n < 18446744073709551616) : IntKind.u64.wrap (n : Int) = (n : Int) := by rw [wrap_u64']; omega
set_option maxHeartbeats 12800000 in
set_option maxRecDepth 100000 in
theorem law_cthr (s : Bool) (a0 b0 c0 d0 : Nat) (z0 : Int) (hx : IsW s a0 b0 c0 d0 z0) (v ep : Int) (hv : I64 v) (he : I64 ep) (dt : Nat) (hd : dt < 18446744073709551616) (x : Option Addr) (len cap : Nat) (W : World) (hL : IsList W x len cap) :
   Calls Try.prog 3 #[.agg #[.bool s, .int .u64 (a0 : Int), .int .u64 (b0 : Int), .int .u64 (c0 : Int), .int .u64 (d0 : Int)], .int .i64 v, .int .i64 ep, .int .u64 (dt : Int), .slice x len cap] W (BoolRet true W) := by
 have k0 : Hid (∀ w, Calls Try.prog 13 #[.agg (wX s a0 b0 c0 d0), .int .i64 v, .int .i64 ep, .int .u64 (dt : Int)] w (Ret (.bool true) w)) := fun w => l_thr p_thr p_thrR p_val hx hv.1 hv.2 he.1 he.2 hd w
 have kT : Hid (∀ (z v ep : Int) (dt : Nat), F256 z → I64 v → I64 ep → dt < 18446744073709551616 → ∀ w, Calls Try.prog 13 #[.agg (wC z), .int .i64 v, .int .i64 ep, .int .u64 (dt : Int)] w (Ret (.bool true) w)) := fun z v ep dt hz hv he hd w => l_thr p_thr p_thrR p_val (isC_of hz).1 hv.1 hv.2 he.1 he.2 hd w
 have kO : Hid (∀ w, Calls Try.prog 16 #[.int .i64 v] w (Ret (.agg (wX (sg v) (l0 v) (l1 v) (l2 v) (l3 v))) w)) := fun w => d_ofi hv.1 hv.2 w
 have kO2 : Hid (∀ z : Int, I64 z → ∀ w, Calls Try.prog 16 #[.int .i64 z] w (Ret (.agg (wC z)) w)) := fun z hz w => d_ofi hz.1 hz.2 w
 have kN : Hid (∀ z : Int, F256 z → ∀ w, Calls Try.prog 11 #[.agg (wC z)] w (Ret (.agg (wC (-z))) w)) := fun z hz w => d_neg hz rfl w
 have kK : Hid (∀ w, Calls Try.prog 12 #[] w (Ret (.bool true) w)) := fun w => l_known13p w
 have i64 : I64 64 := ⟨by omega, by omega⟩
 have i5 : I64 5 := ⟨by omega, by omega⟩
 have i9 : I64 9 := ⟨by omega, by omega⟩
 have i50 : I64 50 := ⟨by omega, by omega⟩
 have HI := hide (And.intro hv he)
 have HL := hide hL
 have Hd := hide hd
 obtain ⟨Bx, hBx⟩ : ∃ Bx, wX s a0 b0 c0 d0 = Bx := ⟨_, rfl⟩
 have sB : Bx.size = 5 := by rw [← hBx]; rfl
 have oB : Bx.all (·.oneCell') = true := by rw [← hBx]; kernel_rfl
 change Calls _ _ #[.agg (wX s a0 b0 c0 d0), _, _, _, _] _ _
 rw [hBx] at k0 ⊢
 have HX := hide hBx
 clear hL hBx hx hv he hd
 have P5 := Blk.new W 25 Bx
 have EE := hide (ext_alloc W (.cells Bx 25))
 obtain ⟨W1, hW1⟩ : ∃ W1, (W.alloc (.cells Bx 25)) = W1 := ⟨_, rfl⟩
 obtain ⟨g0, hg⟩ : ∃ g, W.heap.size = g := ⟨_, rfl⟩
 rw [hW1] at P5 EE
 rw [hg] at P5
 have P5_lo : W.heap.size ≤ g0 := by omega
 have HW := hide hW1
 have Hg := hide hg
 clear hW1 hg
 go_enter Try.func3, Try.ntmps3
 go_upto_region 1 with fail
 rw [HW.out, Hg.out]
 clear HW Hg
 go_upto_region 2 with (go_at_call 7; (with_reducible refine (t_new W1 x len cap (HL.out.ext EE.out)).mono ?_); rintro e w1 ⟨rfl, T0, hB⟩)
 obtain ⟨b, hb⟩ : ∃ b, W1.heap.size = b := ⟨_, rfl⟩
 have P5_lt0 := P5.lt
 have P5 := P5.ext hB
 have P5_nb : g0 ≠ b := by omega
 rw [hb] at T0 hB P5_lt0
 have EB : Hid (Ext W w1) := hide (EE.out.trans (by rw [← hb] at hB; exact hB))
 rw [hb]
 have hBw : b ≤ w1.heap.size := by have := T0.2.1; omega
 clear hb hB
 go_upto_region 3 with (first
   | (go_at_call 8; (with_reducible refine (t_word b b _ T0).mono ?_); rintro e w2 ⟨u, rfl, hu, T2, u2⟩; obtain ⟨xw, rfl⟩ := Int.eq_ofNat_of_zero_le hu.1; have hxw : xw < 18446744073709551616 := (by have := hu.2; omega); have T2 := hide T2; have U2 := hide u2; clear hu u2)
   | (go_at_call 9; (with_reducible refine (t_next b b 64 _ i64 T2.out).mono ?_); rintro e w3 ⟨y, rfl, hs, T3, u3⟩; obtain ⟨q, rfl⟩ := Int.eq_ofNat_of_zero_le hs.1; have hq2 : q ≤ 64 := (by have := hs.2.1 (by omega); omega); have hr := shr_le' (q := q) (k := 0) hxw (by omega); have e1 := shr_cast' xw q; obtain ⟨r, hrr⟩ : ∃ r, xw >>> q = r := ⟨_, rfl⟩; rw [hrr] at e1 hr; have hr2 : r < 18446744073709551616 := (by omega); clear hr hrr hs; have T3 := hide T3; have U3 := hide (U2.out.trans u3); clear u3 T2 U2)
   | (go_at_call 9; (with_reducible refine (t_next b b 5 _ i5 T3.out).mono ?_); rintro e w4 ⟨z, rfl, hs, T4, u4⟩; obtain ⟨n, rfl⟩ := Int.eq_ofNat_of_zero_le hs.1; have hn5 : n < 5 := (by have := hs.2.1 (by omega); omega); have T4 := hide T4; have U4 := hide (U3.out.trans u4); clear hs u4 T3 U3))
 obtain ⟨Z, hZ, eN⟩ := near_row hr2 hn5
 have P5 : Blk w4 g0 _ _ := (U4.out.2.2.2.2 g0 P5.lt P5_nb).trans P5
 rw [eN]
 have P12 := Blk.new w4 25 (wC Z)
 have P5 := P5.alloc (.cells (wC Z) 25)
 have hb4 := T4.out.2.1
 have hz4 := U4.out.2.2.2.1
 have T0 := T4.out.ext (ext_alloc w4 (.cells (wC Z) 25))
 have UU := hide (U4.out.trans (Ext.upd (ext_alloc w4 (.cells (wC Z) 25)) b))
 obtain ⟨w5, hw5⟩ : ∃ w, w4.alloc (.cells (wC Z) 25) = w := ⟨_, rfl⟩
 obtain ⟨g4, hg4⟩ : ∃ g, w4.heap.size = g := ⟨_, rfl⟩
 rw [hw5] at T0 UU P5 P12 ⊢
 rw [hg4] at P12 hb4 hz4 ⊢
 have P12_nb : g4 ≠ b := by omega
 have P12_lo : w1.heap.size ≤ g4 := hz4
 clear hw5 hg4 eN T4 U4 e1 hq2 hb4 hz4 hr2 hn5 hxw
 have P5_lt := P5.lt
 have P12_lt := P12.lt
 refine wp_evs [.q, .ev 0] [0, 0] (fun R => [.pointer (some ⟨b, 0, none⟩), undef]) (fun _ => (.cells #[] 0 (0, 0))) (fun R _ => (.cells #[] 0 (0, 0))) (fun _ => 0) (TE b b w1 (XA [IsBo])) (fun k => k = b) (by kernel_rfl) (by kernel_rfl) (by kernel_rfl) rfl (fun _ => rfl) (fun k e => by subst e; exact T0.2.1) (by simp) (by simp) (by simp) (fun R R' => ⟨fun _ => rfl, fun _ => rfl, trivial⟩) (fun _ _ _ _ => rfl) te_below ⟨T0, UU.out, XA.zero⟩ ?ops2 ?end2
 case ops2 =>
   refine ⟨?_, ?_, trivial⟩
   · refine er_q ?vn1 ?hn1 ?kn1 ?gn1 ?_
     case hn1 => exact rfl
     case vn1 => exact (fun R => .pointer (some ⟨b, 0, none⟩))
     case kn1 => exact (fun R => rfl)
     case gn1 => exact gd_none rfl
     intro R s w' hT hs hw ha
     go_simp
   · refine er_ev (m := 0) ?hn2 ?gn2 ?_
     case hn2 => exact rfl
     case gn2 => exact gd_none rfl
     intro R w' hT hw
     go_simp
     refine (t_bool b b 2 w' w' (by omega) (by omega) hT.1 (Upd.refl _ _)).mono ?_
     rintro e w2 ⟨v, rfl, hT2, hU2⟩
     exact ⟨_, rfl, te_ev hT hT2 hU2 (hT.2.2.step rfl ⟨v, rfl⟩)⟩
 case end2 =>
  intro sI R G w3 hI
  have hS := hI.same
  have hTT := hI.holds
  have hz0 := UU.out.2.2.2.1
  have hs0 : 0 < sI := (hI.stage 1 (show 1 < 2 by decide) 0 rfl).1 (List.mem_range.2 (show 1 < 2 by decide))
  obtain ⟨x0, e0⟩ := hTT.2.2.get 0 rfl hs0
  replace P5 := P5.sameE hS P5_nb (by simp)
  replace P12 := P12.sameE hS P12_nb (by simp)
  replace T0 := hTT.1
  replace UU := hide hTT.2.1
  clear hS hz0 hTT hI P5_lt P12_lt
  generalize hF : putE _ _ _ _ _ _ _ = FF
  have hF2 : FF = { tmps := #[.agg Bx, .int .i64 v, .int .i64 ep, .int .u64 (dt : Int), .slice x len cap, .pointer (some ⟨g0, 0, none⟩), undef, undef, undef, undef, .bool false, .pointer (some ⟨b, 0, none⟩), .pointer (some ⟨g4, 0, none⟩), .slice x len cap, .pointer (some ⟨b, 0, none⟩), .pointer (some ⟨b, 0, none⟩), .int .u64 (xw : Int), .pointer (some ⟨b, 0, none⟩), .int .i64 (q : Int), .int .u64 (q : Int), .int .u64 (r : Int), .pointer (some ⟨b, 0, none⟩), .int .i64 (n : Int), .int .u64 (n : Int), .agg (#[.int .u64 (r : Int), .int .u64 (n : Int), .int .u64 0, .int .u64 0]), .agg (wC Z), .pointer (some ⟨b, 0, none⟩), (R 0), undef, undef, undef, undef, undef, undef, undef, undef, undef, undef, undef, undef, undef, undef, undef, undef, undef, undef, undef, undef, undef, undef, undef, undef, undef, undef, undef, undef, undef, undef, undef, undef, undef, undef, undef, undef, undef, undef, undef, undef, undef, undef, undef, undef, undef, undef, undef], defers := [] } := by subst hF; kernel_rfl
  clear hF
  subst hF2
  (try simp only [e0])
  clear e0
  rcases Bool.eq_false_or_eq_true x0 with rfl | rfl
  · skip
    have kn := hide (kN.out Z hZ)
    have hZ' : F256 (-Z) := by unfold F256 at *; omega
    go_upto_region 4 with fail
    have P5_lt := P5.lt
    have P12_lt := P12.lt
    refine wp_evs [.q, .q, .so 0] [0, 0, 0] (fun R => [.agg (wC Z), .agg (wC (-Z)), undef]) (fun _ => (.cells #[] 0 (0, 0))) (fun R _ => (.cells (wC (-Z)) 25 (0, 0))) (fun _ => g4) (TE b b w1 (XA [])) (fun k => k = b) (by kernel_rfl) (by kernel_rfl) (by kernel_rfl) rfl (fun _ => rfl) (fun k e => by subst e; exact T0.2.1) (by intro c hc; simp at hc; (try subst hc); (try simp only); (intro e; omega)) (by intro c hc; simp at hc; (try subst hc); (try simp only); omega) (by intro c c' h1 h2 _; simp at h1 h2; omega) (fun R R' => ⟨fun _ => rfl, fun _ => rfl, fun _ => rfl, trivial⟩) (fun _ _ _ _ => rfl) te_below ⟨T0, UU.out, XA.zero⟩ ?ops6 ?end6
    case ops6 =>
      refine ⟨?_, ?_, ?_, trivial⟩
      · refine er_q ?vn4 ?hn4 ?kn4 ?gn4 ?_
        case hn4 => exact rfl
        case vn4 => exact (fun R => .agg (wC Z))
        case kn4 => exact (fun R => rfl)
        case gn4 => exact gd_none rfl
        intro R s w' hT hs hw ha
        have L := ld_all ((ha 2 0 rfl (by kernel_rfl)).trans P12) uWide rfl iWide rfl
        generalize hA : putE _ _ _ _ _ _ _ = AA
        refine q_load rfl ?_ L
        subst hA
        kernel_rfl
      · refine er_q ?vn5 ?hn5 ?kn5 ?gn5 ?_
        case hn5 => exact rfl
        case vn5 => exact (fun R => .agg (wC (-Z)))
        case kn5 => exact (fun R => rfl)
        case gn5 => exact gd_none rfl
        intro R s w' hT hs hw ha
        go_simp
        exact kn.out w'
      · refine er_so (c := 0) (Ty := ?Tn6) (p := ?pn6) (x := ?xn6) g4 ?fn6 ?un6 ?vn6 ?hn6 ?on6 ?kn6 ?ln6 ?gn6 ?dn6 ?en6 ?_
        case hn6 => exact rfl
        case on6 => exact rfl
        case fn6 => exact (fun R => (.cells (wC (-Z)) 25 (0, 0)))
        case un6 => exact (fun R => .pointer (some ⟨g4, 0, none⟩))
        case vn6 => exact (fun R => .agg (wC (-Z)))
        case kn6 => exact (fun R => rfl)
        case ln6 => exact rfl
        case gn6 => exact gd_none rfl
        case dn6 =>
          intro R
          kernel_rfl
        case en6 =>
          intro R
          kernel_rfl
        intro R s ρ w hT hs hp hx hz
        refine ⟨store_rowN (g := g4) rfl hp hx (hz.trans P12) iWide (rfl) (rfl) (wC_one _), fun w1 hF => te_filled hT hF P12_lo P12_nb (by have := P12_lo; have := hBw; omega)⟩
    case end6 =>
     intro sI R G w7 hI
     have hS := hI.same
     have hTT := hI.holds
     have hz0 := UU.out.2.2.2.1
     replace P5 := P5.sameE hS P5_nb (by intro c hc; simp at hc; (try subst hc); (try simp only); omega)
     replace P12 : Blk w7 g4 25 (wC (-Z)) := hI.olds' 2 (List.mem_range.2 (show 2 < 3 by decide)) 0 rfl
     replace T0 := hTT.1
     replace UU := hide hTT.2.1
     clear hS hz0 hTT hI P5_lt P12_lt
     generalize hF : putE _ _ _ _ _ _ _ = FF
     have hF2 : FF = { tmps := #[.agg Bx, .int .i64 v, .int .i64 ep, .int .u64 (dt : Int), .slice x len cap, .pointer (some ⟨g0, 0, none⟩), undef, undef, undef, undef, .bool false, .pointer (some ⟨b, 0, none⟩), .pointer (some ⟨g4, 0, none⟩), .slice x len cap, .pointer (some ⟨b, 0, none⟩), .pointer (some ⟨b, 0, none⟩), .int .u64 (xw : Int), .pointer (some ⟨b, 0, none⟩), .int .i64 (q : Int), .int .u64 (q : Int), .int .u64 (r : Int), .pointer (some ⟨b, 0, none⟩), .int .i64 (n : Int), .int .u64 (n : Int), .agg (#[.int .u64 (r : Int), .int .u64 (n : Int), .int .u64 0, .int .u64 0]), .agg (wC Z), .pointer (some ⟨b, 0, none⟩), .bool true, .agg (wC Z), .agg (wC (-Z)), undef, undef, undef, undef, undef, undef, undef, undef, undef, undef, undef, undef, undef, undef, undef, undef, undef, undef, undef, undef, undef, undef, undef, undef, undef, undef, undef, undef, undef, undef, undef, undef, undef, undef, undef, undef, undef, undef, undef, undef, undef, undef, undef, undef, undef], defers := [] } := by subst hF; kernel_rfl
     clear hF
     subst hF2
     go_upto_region 5 with fail
     have hz := hZ'
     obtain ⟨z1, hz1⟩ : ∃ z1 : Int, -Z = z1 := ⟨_, rfl⟩
     rw [hz1] at hz P12
     clear hz1
     have hw := (isC_of hz).1
     have kz := hide (fun v ep dt hv he hd => kT.out z1 v ep dt hz hv he hd)
     unfold wC at P12 kz
     obtain ⟨s1, hs1⟩ : ∃ s1, sg z1 = s1 := ⟨_, rfl⟩
     obtain ⟨a1, ha1⟩ : ∃ a1, l0 z1 = a1 := ⟨_, rfl⟩
     obtain ⟨b1, hb1⟩ : ∃ a1, l1 z1 = a1 := ⟨_, rfl⟩
     obtain ⟨c1, hc1⟩ : ∃ a1, l2 z1 = a1 := ⟨_, rfl⟩
     obtain ⟨d1, hd1⟩ : ∃ a1, l3 z1 = a1 := ⟨_, rfl⟩
     rw [hs1, ha1, hb1, hc1, hd1] at P12 kz
     clear hs1 ha1 hb1 hc1 hd1 hw hz
     rw [← HX.out] at P5
     rw [← HX.out] at k0
     have S : Hid (TF b w1 g0 g4 (wX s a0 b0 c0 d0) (wX s1 a1 b1 c1 d1) w7) := hide ⟨T0, UU.out, P5, P12, P5_nb, P12_nb⟩
     clear T0 UU P5 P12 kT kN
     obtain ⟨⟨p0, p1, p2, p3, p4⟩, q0, q1, q2, q3, q4⟩ := S.out.cells
     have K2 : Hid (∀ z : Int, I64 z → ∀ w, Calls Try.prog 16 #[.int .i64 z] w (Ret (.agg (wX (sg z) (l0 z) (l1 z) (l2 z) (l3 z))) w)) := kO2
     have tk0 := trivial
     have tk1 := trivial
     have tk2 := trivial
     have tk3 := trivial
     have tk4 := trivial
     have tk5 := trivial
     have tk6 := trivial
     have tk7 := trivial
     have tk8 := trivial
     have tk9 := trivial
     have tka := trivial
     have tkb := trivial
     have KV : Hid (∀ v' ep' : Int, I64 v' → I64 ep' → ∀ w, Calls Try.prog 13 #[.agg (wX (sg v) (l0 v) (l1 v) (l2 v) (l3 v)), .int .i64 v', .int .i64 ep', .int .u64 (dt : Int)] w (Ret (.bool true) w)) := fun v' ep' hv' he' w => l_thr p_thr p_thrR p_val (isC_of (f256_i64 HI.out.1)).1 hv'.1 hv'.2 he'.1 he'.2 Hd.out w
     have KS : Hid (∀ (x v' ep' : Int) (dt' : Nat), I64 x → I64 v' → I64 ep' → dt' < 18446744073709551616 → ∀ w, Calls Try.prog 13 #[.agg (wX (sg x) (l0 x) (l1 x) (l2 x) (l3 x)), .int .i64 v', .int .i64 ep', .int .u64 (dt' : Int)] w (Ret (.bool true) w)) := fun x v' ep' dt' hx' hv' he' hd' w => l_thr p_thr p_thrR p_val (isC_of (f256_i64 hx')).1 hv'.1 hv'.2 he'.1 he'.2 hd' w
     unfold wX at k0 kO K2 KV KS
     clear kO2
     go_region_held3 (fun w' => w'.cell? ⟨g0, 0, none⟩ = some (.bool s) ∧ w'.cell? ⟨g0, 1, none⟩ = some (.int .u64 (a0 : Int)) ∧ w'.cell? ⟨g0, 2, none⟩ = some (.int .u64 (b0 : Int)) ∧ w'.cell? ⟨g0, 3, none⟩ = some (.int .u64 (c0 : Int)) ∧ w'.cell? ⟨g0, 4, none⟩ = some (.int .u64 (d0 : Int)) ∧ w'.cell? ⟨g4, 0, none⟩ = some (.bool s1) ∧ w'.cell? ⟨g4, 1, none⟩ = some (.int .u64 (a1 : Int)) ∧ w'.cell? ⟨g4, 2, none⟩ = some (.int .u64 (b1 : Int)) ∧ w'.cell? ⟨g4, 3, none⟩ = some (.int .u64 (c1 : Int)) ∧ w'.cell? ⟨g4, 4, none⟩ = some (.int .u64 (d1 : Int))) (first | (with_reducible exact ⟨p0, p1, p2, p3, p4, q0, q1, q2, q3, q4⟩) | go_keep) (first
       | (go_at_call 12; (with_reducible refine (kK.out _).mono ?_); rintro e y0 ⟨rfl, hE⟩; have S : Hid (TF b w1 g0 g4 (wX s a0 b0 c0 d0) (wX s1 a1 b1 c1 d1) _) := (by first | exact hide (S.out.ext hE) | exact hide (S.out.ext (Ext.trans (ext_drew _) hE))); obtain ⟨⟨p0, p1, p2, p3, p4⟩, q0, q1, q2, q3, q4⟩ := S.out.cells; clear hE)
       | (clear tka; go_at_call 13; (with_reducible refine (k0.out _).mono ?_); rintro e y1 ⟨rfl, hE⟩; have S : Hid (TF b w1 g0 g4 (wX s a0 b0 c0 d0) (wX s1 a1 b1 c1 d1) _) := (by first | exact hide (S.out.ext hE) | exact hide (S.out.ext (Ext.trans (ext_drew _) hE))); obtain ⟨⟨p0, p1, p2, p3, p4⟩, q0, q1, q2, q3, q4⟩ := S.out.cells; clear hE)
       | (clear tk0; go_at_call 14; (with_reducible refine (t_int b b _ _ S.out.t (Upd.refl _ _)).mono ?_); rintro e y2 ⟨i0, rfl, hv, hT2, hU2⟩; have S := hide (S.out.upd hT2 hU2); obtain ⟨⟨p0, p1, p2, p3, p4⟩, q0, q1, q2, q3, q4⟩ := S.out.cells; have h0 := hide hv; clear hv; clear hT2 hU2)
       | (clear tk1; go_at_call 15; (with_reducible refine (t_tol b b _ _ S.out.t (Upd.refl _ _)).mono ?_); rintro e y3 ⟨i1, rfl, hv, hT2, hU2⟩; have S := hide (S.out.upd hT2 hU2); obtain ⟨⟨p0, p1, p2, p3, p4⟩, q0, q1, q2, q3, q4⟩ := S.out.cells; have h1 := hide (tol_i64 hv); clear hv; clear hT2 hU2)
       | (clear tk2; go_at_call 8; (with_reducible refine (t_word b b _ S.out.t).mono ?_); rintro e y4 ⟨u2, rfl, hv, hT2, hU2⟩; have S := hide (S.out.upd hT2 hU2); obtain ⟨⟨p0, p1, p2, p3, p4⟩, q0, q1, q2, q3, q4⟩ := S.out.cells; obtain ⟨i2, rfl⟩ := Int.eq_ofNat_of_zero_le hv.1; have h2 : i2 < 18446744073709551616 := (by have := hv.2; omega); clear hv; clear hT2 hU2)
       | (clear tk3; go_at_call 9; (with_reducible refine (t_next b b 64 _ i64 S.out.t).mono ?_); rintro e y5 ⟨u3, rfl, hv, hT2, hU2⟩; have S := hide (S.out.upd hT2 hU2); obtain ⟨⟨p0, p1, p2, p3, p4⟩, q0, q1, q2, q3, q4⟩ := S.out.cells; obtain ⟨i3, rfl⟩ := Int.eq_ofNat_of_zero_le hv.1; have h3 : i3 ≤ 64 := (by have := hv.2.1 (by omega); omega); have wn3 := wrap_nat (n := i3) (by omega); have hr := shr_le' (q := i3) (k := 0) h2 (by omega); have e1 := shr_cast' i2 i3; obtain ⟨r3, hrr⟩ : ∃ r, i2 >>> i3 = r := ⟨_, rfl⟩; rw [hrr] at e1 hr; have kq := hide (kz.out i0 i1 r3 h0.out h1.out (by omega)); clear hrr hr hv; clear hT2 hU2)
       | (clear tkb; go_at_call 13; (with_reducible refine (kq.out _).mono ?_); rintro e y6 ⟨rfl, hE⟩; have S : Hid (TF b w1 g0 g4 (wX s a0 b0 c0 d0) (wX s1 a1 b1 c1 d1) _) := (by first | exact hide (S.out.ext hE) | exact hide (S.out.ext (Ext.trans (ext_drew _) hE))); obtain ⟨⟨p0, p1, p2, p3, p4⟩, q0, q1, q2, q3, q4⟩ := S.out.cells; clear hE)
       | (go_at_call 16; (with_reducible refine (kO.out _).mono ?_); rintro e y7 ⟨rfl, hE⟩; have S : Hid (TF b w1 g0 g4 (wX s a0 b0 c0 d0) (wX s1 a1 b1 c1 d1) _) := (by first | exact hide (S.out.ext hE) | exact hide (S.out.ext (Ext.trans (ext_drew _) hE))); obtain ⟨⟨p0, p1, p2, p3, p4⟩, q0, q1, q2, q3, q4⟩ := S.out.cells; clear hE)
       | (clear tk4; go_at_call 14; (with_reducible refine (t_int b b _ _ S.out.t (Upd.refl _ _)).mono ?_); rintro e y8 ⟨i4, rfl, hv, hT2, hU2⟩; have S := hide (S.out.upd hT2 hU2); obtain ⟨⟨p0, p1, p2, p3, p4⟩, q0, q1, q2, q3, q4⟩ := S.out.cells; have h4 := hide hv; clear hv; clear hT2 hU2)
       | (clear tk5; go_at_call 15; (with_reducible refine (t_tol b b _ _ S.out.t (Upd.refl _ _)).mono ?_); rintro e y9 ⟨i5, rfl, hv, hT2, hU2⟩; have S := hide (S.out.upd hT2 hU2); obtain ⟨⟨p0, p1, p2, p3, p4⟩, q0, q1, q2, q3, q4⟩ := S.out.cells; have h5 := hide (tol_i64 hv); have kr := hide (KV.out i4 i5 h4.out h5.out); clear hv; clear hT2 hU2)
       | (clear kq; go_at_call 13; (with_reducible refine (kr.out _).mono ?_); rintro e ya ⟨rfl, hE⟩; have S : Hid (TF b w1 g0 g4 (wX s a0 b0 c0 d0) (wX s1 a1 b1 c1 d1) _) := (by first | exact hide (S.out.ext hE) | exact hide (S.out.ext (Ext.trans (ext_drew _) hE))); obtain ⟨⟨p0, p1, p2, p3, p4⟩, q0, q1, q2, q3, q4⟩ := S.out.cells; clear hE)
       | (clear tk6; go_at_call 14; (with_reducible refine (t_int b b _ _ S.out.t (Upd.refl _ _)).mono ?_); rintro e yb ⟨i6, rfl, hv, hT2, hU2⟩; have S := hide (S.out.upd hT2 hU2); obtain ⟨⟨p0, p1, p2, p3, p4⟩, q0, q1, q2, q3, q4⟩ := S.out.cells; have h6 := hide hv; have k6 := hide (K2.out i6 hv); clear hv; clear hT2 hU2)
       | (go_at_call 16; (with_reducible refine (k6.out _).mono ?_); rintro e yc ⟨rfl, hE⟩; have S : Hid (TF b w1 g0 g4 (wX s a0 b0 c0 d0) (wX s1 a1 b1 c1 d1) _) := (by first | exact hide (S.out.ext hE) | exact hide (S.out.ext (Ext.trans (ext_drew _) hE))); obtain ⟨⟨p0, p1, p2, p3, p4⟩, q0, q1, q2, q3, q4⟩ := S.out.cells; clear hE)
       | (clear tk7; go_at_call 14; (with_reducible refine (t_int b b _ _ S.out.t (Upd.refl _ _)).mono ?_); rintro e yd ⟨i7, rfl, hv, hT2, hU2⟩; have S := hide (S.out.upd hT2 hU2); obtain ⟨⟨p0, p1, p2, p3, p4⟩, q0, q1, q2, q3, q4⟩ := S.out.cells; have h7 := hide hv; clear hv; clear hT2 hU2)
       | (clear tk8; go_at_call 9; (with_reducible refine (t_next b b 9 _ i9 S.out.t).mono ?_); rintro e ye ⟨i8, rfl, hv, hT2, hU2⟩; have S := hide (S.out.upd hT2 hU2); obtain ⟨⟨p0, p1, p2, p3, p4⟩, q0, q1, q2, q3, q4⟩ := S.out.cells; have h8 : Hid (I64 i8) := hide ⟨by have := hv.1; omega, by have := hv.2.1 (by omega); omega⟩; clear hv; clear hT2 hU2)
       | (clear tk9; go_at_call 9; (with_reducible refine (t_next b b 50 _ i50 S.out.t).mono ?_); rintro e yf ⟨u9, rfl, hv, hT2, hU2⟩; have S := hide (S.out.upd hT2 hU2); obtain ⟨⟨p0, p1, p2, p3, p4⟩, q0, q1, q2, q3, q4⟩ := S.out.cells; obtain ⟨i10, rfl⟩ := Int.eq_ofNat_of_zero_le hv.1; have h9 : i10 < 50 := (by have := hv.2.1 (by omega); omega); have wn9 := wrap_nat (n := i10) (by omega); have ks := hide (KS.out i6 i7 i8 i10 h6.out h7.out h8.out (by omega)); clear hv; clear hT2 hU2)
       | (go_at_call 13; (with_reducible refine (ks.out _).mono ?_); rintro e yg ⟨rfl, hE⟩; have S : Hid (TF b w1 g0 g4 (wX s a0 b0 c0 d0) (wX s1 a1 b1 c1 d1) _) := (by first | exact hide (S.out.ext hE) | exact hide (S.out.ext (Ext.trans (ext_drew _) hE))); obtain ⟨⟨p0, p1, p2, p3, p4⟩, q0, q1, q2, q3, q4⟩ := S.out.cells; clear hE))
     all_goals go_wp2_with fail
     all_goals go_ret
     all_goals exact ⟨rfl, S.out.u.ext EB.out (by omega)⟩
  · skip
    go_upto_region 5 with fail
    have hz := hZ
    obtain ⟨z1, hz1⟩ : ∃ z1 : Int, Z = z1 := ⟨_, rfl⟩
    rw [hz1] at hz P12
    clear hz1
    have hw := (isC_of hz).1
    have kz := hide (fun v ep dt hv he hd => kT.out z1 v ep dt hz hv he hd)
    unfold wC at P12 kz
    obtain ⟨s1, hs1⟩ : ∃ s1, sg z1 = s1 := ⟨_, rfl⟩
    obtain ⟨a1, ha1⟩ : ∃ a1, l0 z1 = a1 := ⟨_, rfl⟩
    obtain ⟨b1, hb1⟩ : ∃ a1, l1 z1 = a1 := ⟨_, rfl⟩
    obtain ⟨c1, hc1⟩ : ∃ a1, l2 z1 = a1 := ⟨_, rfl⟩
    obtain ⟨d1, hd1⟩ : ∃ a1, l3 z1 = a1 := ⟨_, rfl⟩
    rw [hs1, ha1, hb1, hc1, hd1] at P12 kz
    clear hs1 ha1 hb1 hc1 hd1 hw hz
    rw [← HX.out] at P5
    rw [← HX.out] at k0
    have S : Hid (TF b w1 g0 g4 (wX s a0 b0 c0 d0) (wX s1 a1 b1 c1 d1) w3) := hide ⟨T0, UU.out, P5, P12, P5_nb, P12_nb⟩
    clear T0 UU P5 P12 kT kN
    obtain ⟨⟨p0, p1, p2, p3, p4⟩, q0, q1, q2, q3, q4⟩ := S.out.cells
    have K2 : Hid (∀ z : Int, I64 z → ∀ w, Calls Try.prog 16 #[.int .i64 z] w (Ret (.agg (wX (sg z) (l0 z) (l1 z) (l2 z) (l3 z))) w)) := kO2
    have tk0 := trivial
    have tk1 := trivial
    have tk2 := trivial
    have tk3 := trivial
    have tk4 := trivial
    have tk5 := trivial
    have tk6 := trivial
    have tk7 := trivial
    have tk8 := trivial
    have tk9 := trivial
    have tka := trivial
    have tkb := trivial
    have KV : Hid (∀ v' ep' : Int, I64 v' → I64 ep' → ∀ w, Calls Try.prog 13 #[.agg (wX (sg v) (l0 v) (l1 v) (l2 v) (l3 v)), .int .i64 v', .int .i64 ep', .int .u64 (dt : Int)] w (Ret (.bool true) w)) := fun v' ep' hv' he' w => l_thr p_thr p_thrR p_val (isC_of (f256_i64 HI.out.1)).1 hv'.1 hv'.2 he'.1 he'.2 Hd.out w
    have KS : Hid (∀ (x v' ep' : Int) (dt' : Nat), I64 x → I64 v' → I64 ep' → dt' < 18446744073709551616 → ∀ w, Calls Try.prog 13 #[.agg (wX (sg x) (l0 x) (l1 x) (l2 x) (l3 x)), .int .i64 v', .int .i64 ep', .int .u64 (dt' : Int)] w (Ret (.bool true) w)) := fun x v' ep' dt' hx' hv' he' hd' w => l_thr p_thr p_thrR p_val (isC_of (f256_i64 hx')).1 hv'.1 hv'.2 he'.1 he'.2 hd' w
    unfold wX at k0 kO K2 KV KS
    clear kO2
    go_region_held3 (fun w' => w'.cell? ⟨g0, 0, none⟩ = some (.bool s) ∧ w'.cell? ⟨g0, 1, none⟩ = some (.int .u64 (a0 : Int)) ∧ w'.cell? ⟨g0, 2, none⟩ = some (.int .u64 (b0 : Int)) ∧ w'.cell? ⟨g0, 3, none⟩ = some (.int .u64 (c0 : Int)) ∧ w'.cell? ⟨g0, 4, none⟩ = some (.int .u64 (d0 : Int)) ∧ w'.cell? ⟨g4, 0, none⟩ = some (.bool s1) ∧ w'.cell? ⟨g4, 1, none⟩ = some (.int .u64 (a1 : Int)) ∧ w'.cell? ⟨g4, 2, none⟩ = some (.int .u64 (b1 : Int)) ∧ w'.cell? ⟨g4, 3, none⟩ = some (.int .u64 (c1 : Int)) ∧ w'.cell? ⟨g4, 4, none⟩ = some (.int .u64 (d1 : Int))) (first | (with_reducible exact ⟨p0, p1, p2, p3, p4, q0, q1, q2, q3, q4⟩) | go_keep) (first
      | (go_at_call 12; (with_reducible refine (kK.out _).mono ?_); rintro e y0 ⟨rfl, hE⟩; have S : Hid (TF b w1 g0 g4 (wX s a0 b0 c0 d0) (wX s1 a1 b1 c1 d1) _) := (by first | exact hide (S.out.ext hE) | exact hide (S.out.ext (Ext.trans (ext_drew _) hE))); obtain ⟨⟨p0, p1, p2, p3, p4⟩, q0, q1, q2, q3, q4⟩ := S.out.cells; clear hE)
      | (clear tka; go_at_call 13; (with_reducible refine (k0.out _).mono ?_); rintro e y1 ⟨rfl, hE⟩; have S : Hid (TF b w1 g0 g4 (wX s a0 b0 c0 d0) (wX s1 a1 b1 c1 d1) _) := (by first | exact hide (S.out.ext hE) | exact hide (S.out.ext (Ext.trans (ext_drew _) hE))); obtain ⟨⟨p0, p1, p2, p3, p4⟩, q0, q1, q2, q3, q4⟩ := S.out.cells; clear hE)
      | (clear tk0; go_at_call 14; (with_reducible refine (t_int b b _ _ S.out.t (Upd.refl _ _)).mono ?_); rintro e y2 ⟨i0, rfl, hv, hT2, hU2⟩; have S := hide (S.out.upd hT2 hU2); obtain ⟨⟨p0, p1, p2, p3, p4⟩, q0, q1, q2, q3, q4⟩ := S.out.cells; have h0 := hide hv; clear hv; clear hT2 hU2)
      | (clear tk1; go_at_call 15; (with_reducible refine (t_tol b b _ _ S.out.t (Upd.refl _ _)).mono ?_); rintro e y3 ⟨i1, rfl, hv, hT2, hU2⟩; have S := hide (S.out.upd hT2 hU2); obtain ⟨⟨p0, p1, p2, p3, p4⟩, q0, q1, q2, q3, q4⟩ := S.out.cells; have h1 := hide (tol_i64 hv); clear hv; clear hT2 hU2)
      | (clear tk2; go_at_call 8; (with_reducible refine (t_word b b _ S.out.t).mono ?_); rintro e y4 ⟨u2, rfl, hv, hT2, hU2⟩; have S := hide (S.out.upd hT2 hU2); obtain ⟨⟨p0, p1, p2, p3, p4⟩, q0, q1, q2, q3, q4⟩ := S.out.cells; obtain ⟨i2, rfl⟩ := Int.eq_ofNat_of_zero_le hv.1; have h2 : i2 < 18446744073709551616 := (by have := hv.2; omega); clear hv; clear hT2 hU2)
      | (clear tk3; go_at_call 9; (with_reducible refine (t_next b b 64 _ i64 S.out.t).mono ?_); rintro e y5 ⟨u3, rfl, hv, hT2, hU2⟩; have S := hide (S.out.upd hT2 hU2); obtain ⟨⟨p0, p1, p2, p3, p4⟩, q0, q1, q2, q3, q4⟩ := S.out.cells; obtain ⟨i3, rfl⟩ := Int.eq_ofNat_of_zero_le hv.1; have h3 : i3 ≤ 64 := (by have := hv.2.1 (by omega); omega); have wn3 := wrap_nat (n := i3) (by omega); have hr := shr_le' (q := i3) (k := 0) h2 (by omega); have e1 := shr_cast' i2 i3; obtain ⟨r3, hrr⟩ : ∃ r, i2 >>> i3 = r := ⟨_, rfl⟩; rw [hrr] at e1 hr; have kq := hide (kz.out i0 i1 r3 h0.out h1.out (by omega)); clear hrr hr hv; clear hT2 hU2)
      | (clear tkb; go_at_call 13; (with_reducible refine (kq.out _).mono ?_); rintro e y6 ⟨rfl, hE⟩; have S : Hid (TF b w1 g0 g4 (wX s a0 b0 c0 d0) (wX s1 a1 b1 c1 d1) _) := (by first | exact hide (S.out.ext hE) | exact hide (S.out.ext (Ext.trans (ext_drew _) hE))); obtain ⟨⟨p0, p1, p2, p3, p4⟩, q0, q1, q2, q3, q4⟩ := S.out.cells; clear hE)
      | (go_at_call 16; (with_reducible refine (kO.out _).mono ?_); rintro e y7 ⟨rfl, hE⟩; have S : Hid (TF b w1 g0 g4 (wX s a0 b0 c0 d0) (wX s1 a1 b1 c1 d1) _) := (by first | exact hide (S.out.ext hE) | exact hide (S.out.ext (Ext.trans (ext_drew _) hE))); obtain ⟨⟨p0, p1, p2, p3, p4⟩, q0, q1, q2, q3, q4⟩ := S.out.cells; clear hE)
      | (clear tk4; go_at_call 14; (with_reducible refine (t_int b b _ _ S.out.t (Upd.refl _ _)).mono ?_); rintro e y8 ⟨i4, rfl, hv, hT2, hU2⟩; have S := hide (S.out.upd hT2 hU2); obtain ⟨⟨p0, p1, p2, p3, p4⟩, q0, q1, q2, q3, q4⟩ := S.out.cells; have h4 := hide hv; clear hv; clear hT2 hU2)
      | (clear tk5; go_at_call 15; (with_reducible refine (t_tol b b _ _ S.out.t (Upd.refl _ _)).mono ?_); rintro e y9 ⟨i5, rfl, hv, hT2, hU2⟩; have S := hide (S.out.upd hT2 hU2); obtain ⟨⟨p0, p1, p2, p3, p4⟩, q0, q1, q2, q3, q4⟩ := S.out.cells; have h5 := hide (tol_i64 hv); have kr := hide (KV.out i4 i5 h4.out h5.out); clear hv; clear hT2 hU2)
      | (clear kq; go_at_call 13; (with_reducible refine (kr.out _).mono ?_); rintro e ya ⟨rfl, hE⟩; have S : Hid (TF b w1 g0 g4 (wX s a0 b0 c0 d0) (wX s1 a1 b1 c1 d1) _) := (by first | exact hide (S.out.ext hE) | exact hide (S.out.ext (Ext.trans (ext_drew _) hE))); obtain ⟨⟨p0, p1, p2, p3, p4⟩, q0, q1, q2, q3, q4⟩ := S.out.cells; clear hE)
      | (clear tk6; go_at_call 14; (with_reducible refine (t_int b b _ _ S.out.t (Upd.refl _ _)).mono ?_); rintro e yb ⟨i6, rfl, hv, hT2, hU2⟩; have S := hide (S.out.upd hT2 hU2); obtain ⟨⟨p0, p1, p2, p3, p4⟩, q0, q1, q2, q3, q4⟩ := S.out.cells; have h6 := hide hv; have k6 := hide (K2.out i6 hv); clear hv; clear hT2 hU2)
      | (go_at_call 16; (with_reducible refine (k6.out _).mono ?_); rintro e yc ⟨rfl, hE⟩; have S : Hid (TF b w1 g0 g4 (wX s a0 b0 c0 d0) (wX s1 a1 b1 c1 d1) _) := (by first | exact hide (S.out.ext hE) | exact hide (S.out.ext (Ext.trans (ext_drew _) hE))); obtain ⟨⟨p0, p1, p2, p3, p4⟩, q0, q1, q2, q3, q4⟩ := S.out.cells; clear hE)
      | (clear tk7; go_at_call 14; (with_reducible refine (t_int b b _ _ S.out.t (Upd.refl _ _)).mono ?_); rintro e yd ⟨i7, rfl, hv, hT2, hU2⟩; have S := hide (S.out.upd hT2 hU2); obtain ⟨⟨p0, p1, p2, p3, p4⟩, q0, q1, q2, q3, q4⟩ := S.out.cells; have h7 := hide hv; clear hv; clear hT2 hU2)
      | (clear tk8; go_at_call 9; (with_reducible refine (t_next b b 9 _ i9 S.out.t).mono ?_); rintro e ye ⟨i8, rfl, hv, hT2, hU2⟩; have S := hide (S.out.upd hT2 hU2); obtain ⟨⟨p0, p1, p2, p3, p4⟩, q0, q1, q2, q3, q4⟩ := S.out.cells; have h8 : Hid (I64 i8) := hide ⟨by have := hv.1; omega, by have := hv.2.1 (by omega); omega⟩; clear hv; clear hT2 hU2)
      | (clear tk9; go_at_call 9; (with_reducible refine (t_next b b 50 _ i50 S.out.t).mono ?_); rintro e yf ⟨u9, rfl, hv, hT2, hU2⟩; have S := hide (S.out.upd hT2 hU2); obtain ⟨⟨p0, p1, p2, p3, p4⟩, q0, q1, q2, q3, q4⟩ := S.out.cells; obtain ⟨i10, rfl⟩ := Int.eq_ofNat_of_zero_le hv.1; have h9 : i10 < 50 := (by have := hv.2.1 (by omega); omega); have wn9 := wrap_nat (n := i10) (by omega); have ks := hide (KS.out i6 i7 i8 i10 h6.out h7.out h8.out (by omega)); clear hv; clear hT2 hU2)
      | (go_at_call 13; (with_reducible refine (ks.out _).mono ?_); rintro e yg ⟨rfl, hE⟩; have S : Hid (TF b w1 g0 g4 (wX s a0 b0 c0 d0) (wX s1 a1 b1 c1 d1) _) := (by first | exact hide (S.out.ext hE) | exact hide (S.out.ext (Ext.trans (ext_drew _) hE))); obtain ⟨⟨p0, p1, p2, p3, p4⟩, q0, q1, q2, q3, q4⟩ := S.out.cells; clear hE))
    all_goals go_wp2_with fail
    all_goals go_ret
    all_goals exact ⟨rfl, S.out.u.ext EB.out (by omega)⟩
end
end Go.Proofs.Ythlbkidgdngblaa
