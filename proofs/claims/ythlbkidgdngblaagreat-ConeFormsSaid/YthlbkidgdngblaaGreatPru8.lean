/- Part 8 of what these claims stand on: contracts of the program's and the reference's functions, and plain facts. Conditions: each states its own. -/
import Derived.Test.YthlbkidgdngblaaGreatPru7
namespace Go.Proofs.YthlbkidgdngblaaGreat
set_option linter.unusedVariables false
set_option linter.unusedSimpArgs false
section
open Go Go.RowKit Go.Sort
attribute [local go_sem] qUpon eUpon putE slE
set_option maxHeartbeats 3200000 in
set_option maxRecDepth 100000 in
theorem pc_con1 (o : Bool) (L H S : Array Value) (hL : L.size = 10) (hH : H.size = 10) (sS : S.size = 10) (oL : L.all (·.oneCell') = true) (oH : H.all (·.oneCell') = true) (oS : S.all (·.oneCell') = true) (W : World)
   (kv : Hid (∀ w, Calls Tryz.prog 18 #[.agg (coneC o L H)] w (Ret (.bool false) w))) :
   Calls Tryz.prog 19 #[.agg (coneC o L H), .agg S] W (Ret (.bool false) W) := by
 have sX := coneC_size o hL hH
 have oX := cone_one o oL oH
 have fo : (coneC o L H)[0]? = some (.bool o) := by rw [coneC, Array.append_assoc, Array.getElem?_append_left (by simp)]; rfl
 have fl := coneC_lo o hL hH
 have fh := coneC_hi o hL hH
 obtain ⟨X, hX⟩ : ∃ X, coneC o L H = X := ⟨_, rfl⟩
 rw [hX] at kv sX oX fo fl fh ⊢
 clear hX
 have P2 := (Blk.new W 29 X).alloc (.cells S 27)
 have P3 := Blk.new (W.alloc (.cells X 29)) 27 S
 rw [alloc_size] at P3
 have EE := hide ((ext_alloc W (.cells X 29)).trans (ext_alloc _ (.cells S 27)))
 obtain ⟨W1, hW1⟩ : ∃ W1, ((W.alloc (.cells X 29)).alloc (.cells S 27)) = W1 := ⟨_, rfl⟩
 obtain ⟨g0, hg⟩ : ∃ g, W.heap.size = g := ⟨_, rfl⟩
 rw [hW1] at P2 P3 EE
 rw [hg] at P2 P3
 have P2_lo : W.heap.size ≤ g0 := by omega
 have P3_lo : W.heap.size ≤ g0 + 1 := by omega
 have HW := hide hW1
 have Hg := hide hg
 clear hW1 hg
 go_enter Tryz.func19, Tryz.ntmps19
 go_upto_region 1 with fail
 rw [HW.out, Hg.out]
 clear HW Hg
 have P2_lt := P2.lt
 have P3_lt := P3.lt
 refine wp_evs [.q, .q, .q, .q, .sk, .sk, .sk, .q] [0, 0, 0, 0, 0, 0, 0, 0] (fun R => [.agg X, .bool false, .bool true, .bool true, undef, undef, undef, .bool true]) (fun _ => (.cells #[] 0 (0, 0))) (fun R _ => (.cells #[] 0 (0, 0))) (fun _ => 0) (XE W) (fun _ => False) (by kernel_rfl) (by kernel_rfl) (by kernel_rfl) rfl (fun _ => rfl) (fun _ h => h.elim) (fun _ _ h => h) (by simp) (by simp) (fun R R' => ⟨fun _ => rfl, fun _ => rfl, fun _ => rfl, fun _ => rfl, fun _ => rfl, fun _ => rfl, fun _ => rfl, fun _ => rfl, trivial⟩) (fun _ _ _ _ => rfl) xe_below EE.out ?ops8 ?end8
 case ops8 =>
   refine ⟨?_, ?_, ?_, ?_, ?_, ?_, ?_, ?_, trivial⟩
   · refine er_q ?vn1 ?hn1 ?kn1 ?gn1 ?_
     case hn1 => exact rfl
     case vn1 => exact (fun R => .agg X)
     case kn1 => exact (fun R => rfl)
     case gn1 => exact gd_none rfl
     intro R s w' hT hs hw ha
     have L := ld_all (P2.sameE hw (fun h => h) (by simp)) uCone rfl iCone sX
     generalize hA : putE _ _ _ _ _ _ _ = AA
     refine q_load rfl ?_ L
     subst hA
     kernel_rfl
   · refine er_q ?vn2 ?hn2 ?kn2 ?gn2 ?_
     case hn2 => exact rfl
     case vn2 => exact (fun R => .bool false)
     case kn2 => exact (fun R => rfl)
     case gn2 => exact gd_none rfl
     intro R s w' hT hs hw ha
     go_simp
     exact kv.out w'
   · refine er_q ?vn3 ?hn3 ?kn3 ?gn3 ?_
     case hn3 => exact rfl
     case vn3 => exact (fun R => .bool true)
     case kn3 => exact (fun R => rfl)
     case gn3 => exact gd_none rfl
     intro R s w' hT hs hw ha
     go_simp
   · refine er_q ?vn4 ?hn4 ?kn4 ?gn4 ?_
     case hn4 => exact rfl
     case vn4 => exact (fun R => .bool true)
     case kn4 => exact (fun R => rfl)
     case gn4 => exact gd_none rfl
     intro R s w' hT hs hw ha
     go_simp
   · refine er_sk ?hn5 ?gn5
     case hn5 => exact rfl
     case gn5 => (refine gd_some rfl ?_; intro R; kernel_rfl)
   · refine er_sk ?hn6 ?gn6
     case hn6 => exact rfl
     case gn6 => (refine gd_some rfl ?_; intro R; kernel_rfl)
   · refine er_sk ?hn7 ?gn7
     case hn7 => exact rfl
     case gn7 => (refine gd_some rfl ?_; intro R; kernel_rfl)
   · refine er_q ?vn8 ?hn8 ?kn8 ?gn8 ?_
     case hn8 => exact rfl
     case vn8 => exact (fun R => .bool true)
     case kn8 => exact (fun R => rfl)
     case gn8 => exact gd_none rfl
     intro R s w' hT hs hw ha
     go_simp
 case end8 =>
  intro sI R G w9 hI
  have hS := hI.same
  have hTT := hI.holds
  have hz0 := EE.out.size
  have P2 := P2.sameE hS (fun h => h) (by simp)
  have P3 := P3.sameE hS (fun h => h) (by simp)
  have EE := hide (show Ext _ _ from hTT)
  clear hS hz0 hTT hI
  generalize hF : putE _ _ _ _ _ _ _ = FF
  have hF2 : FF = { tmps := #[.agg X, .agg S, .pointer (some ⟨g0, 0, none⟩), .pointer (some ⟨g0 + 1, 0, none⟩), .bool false, .agg X, .bool false, .bool true, .bool true, undef, undef, undef, .bool true, undef, undef, undef, undef, undef, undef, undef, undef, undef, undef, undef, undef, undef, undef, undef, undef], defers := [] } := by subst hF; kernel_rfl
  clear hF
  subst hF2
  go_upto_region 2 with fail
  go_wp2_with fail
  go_ret
  exact ⟨rfl, EE.out⟩
set_option maxHeartbeats 3200000 in
set_option maxRecDepth 100000 in
theorem pc_con2 (o : Bool) (L H S : Array Value) (hL : L.size = 10) (hH : H.size = 10) (sS : S.size = 10) (oL : L.all (·.oneCell') = true) (oH : H.all (·.oneCell') = true) (oS : S.all (·.oneCell') = true) (W : World)
   (kv : Hid (∀ w, Calls Tryz.prog 18 #[.agg (coneC o L H)] w (Ret (.bool true) w))) (ks : Hid (∀ w, Calls Tryz.prog 42 #[.agg S] w (Ret (.bool false) w))) :
   Calls Tryz.prog 19 #[.agg (coneC o L H), .agg S] W (Ret (.bool false) W) := by
 have sX := coneC_size o hL hH
 have oX := cone_one o oL oH
 have fo : (coneC o L H)[0]? = some (.bool o) := by rw [coneC, Array.append_assoc, Array.getElem?_append_left (by simp)]; rfl
 have fl := coneC_lo o hL hH
 have fh := coneC_hi o hL hH
 obtain ⟨X, hX⟩ : ∃ X, coneC o L H = X := ⟨_, rfl⟩
 rw [hX] at kv sX oX fo fl fh ⊢
 clear hX
 have P2 := (Blk.new W 29 X).alloc (.cells S 27)
 have P3 := Blk.new (W.alloc (.cells X 29)) 27 S
 rw [alloc_size] at P3
 have EE := hide ((ext_alloc W (.cells X 29)).trans (ext_alloc _ (.cells S 27)))
 obtain ⟨W1, hW1⟩ : ∃ W1, ((W.alloc (.cells X 29)).alloc (.cells S 27)) = W1 := ⟨_, rfl⟩
 obtain ⟨g0, hg⟩ : ∃ g, W.heap.size = g := ⟨_, rfl⟩
 rw [hW1] at P2 P3 EE
 rw [hg] at P2 P3
 have P2_lo : W.heap.size ≤ g0 := by omega
 have P3_lo : W.heap.size ≤ g0 + 1 := by omega
 have HW := hide hW1
 have Hg := hide hg
 clear hW1 hg
 go_enter Tryz.func19, Tryz.ntmps19
 go_upto_region 1 with fail
 rw [HW.out, Hg.out]
 clear HW Hg
 have P2_lt := P2.lt
 have P3_lt := P3.lt
 refine wp_evs [.q, .q, .q, .q, .q, .q, .q, .q] [0, 0, 0, 0, 0, 0, 0, 0] (fun R => [.agg X, .bool true, .bool false, .bool false, .agg S, .bool false, .bool true, .bool true]) (fun _ => (.cells #[] 0 (0, 0))) (fun R _ => (.cells #[] 0 (0, 0))) (fun _ => 0) (XE W) (fun _ => False) (by kernel_rfl) (by kernel_rfl) (by kernel_rfl) rfl (fun _ => rfl) (fun _ h => h.elim) (fun _ _ h => h) (by simp) (by simp) (fun R R' => ⟨fun _ => rfl, fun _ => rfl, fun _ => rfl, fun _ => rfl, fun _ => rfl, fun _ => rfl, fun _ => rfl, fun _ => rfl, trivial⟩) (fun _ _ _ _ => rfl) xe_below EE.out ?ops8 ?end8
 case ops8 =>
   refine ⟨?_, ?_, ?_, ?_, ?_, ?_, ?_, ?_, trivial⟩
   · refine er_q ?vn1 ?hn1 ?kn1 ?gn1 ?_
     case hn1 => exact rfl
     case vn1 => exact (fun R => .agg X)
     case kn1 => exact (fun R => rfl)
     case gn1 => exact gd_none rfl
     intro R s w' hT hs hw ha
     have L := ld_all (P2.sameE hw (fun h => h) (by simp)) uCone rfl iCone sX
     generalize hA : putE _ _ _ _ _ _ _ = AA
     refine q_load rfl ?_ L
     subst hA
     kernel_rfl
   · refine er_q ?vn2 ?hn2 ?kn2 ?gn2 ?_
     case hn2 => exact rfl
     case vn2 => exact (fun R => .bool true)
     case kn2 => exact (fun R => rfl)
     case gn2 => exact gd_none rfl
     intro R s w' hT hs hw ha
     go_simp
     exact kv.out w'
   · refine er_q ?vn3 ?hn3 ?kn3 ?gn3 ?_
     case hn3 => exact rfl
     case vn3 => exact (fun R => .bool false)
     case kn3 => exact (fun R => rfl)
     case gn3 => exact gd_none rfl
     intro R s w' hT hs hw ha
     go_simp
   · refine er_q ?vn4 ?hn4 ?kn4 ?gn4 ?_
     case hn4 => exact rfl
     case vn4 => exact (fun R => .bool false)
     case kn4 => exact (fun R => rfl)
     case gn4 => exact gd_none rfl
     intro R s w' hT hs hw ha
     go_simp
   · refine er_q ?vn5 ?hn5 ?kn5 ?gn5 ?_
     case hn5 => exact rfl
     case vn5 => exact (fun R => .agg S)
     case kn5 => exact (fun R => rfl)
     case gn5 => (refine gd_some rfl ?_; intro R; kernel_rfl)
     intro R s w' hT hs hw ha
     have L := ld_all (P3.sameE hw (fun h => h) (by simp)) uRat rfl iRat sS
     generalize hA : putE _ _ _ _ _ _ _ = AA
     refine q_load rfl ?_ L
     subst hA
     kernel_rfl
   · refine er_q ?vn6 ?hn6 ?kn6 ?gn6 ?_
     case hn6 => exact rfl
     case vn6 => exact (fun R => .bool false)
     case kn6 => exact (fun R => rfl)
     case gn6 => (refine gd_some rfl ?_; intro R; kernel_rfl)
     intro R s w' hT hs hw ha
     go_simp
     exact ks.out w'
   · refine er_q ?vn7 ?hn7 ?kn7 ?gn7 ?_
     case hn7 => exact rfl
     case vn7 => exact (fun R => .bool true)
     case kn7 => exact (fun R => rfl)
     case gn7 => (refine gd_some rfl ?_; intro R; kernel_rfl)
     intro R s w' hT hs hw ha
     go_simp
   · refine er_q ?vn8 ?hn8 ?kn8 ?gn8 ?_
     case hn8 => exact rfl
     case vn8 => exact (fun R => .bool true)
     case kn8 => exact (fun R => rfl)
     case gn8 => exact gd_none rfl
     intro R s w' hT hs hw ha
     go_simp
 case end8 =>
  intro sI R G w9 hI
  have hS := hI.same
  have hTT := hI.holds
  have hz0 := EE.out.size
  have P2 := P2.sameE hS (fun h => h) (by simp)
  have P3 := P3.sameE hS (fun h => h) (by simp)
  have EE := hide (show Ext _ _ from hTT)
  clear hS hz0 hTT hI
  generalize hF : putE _ _ _ _ _ _ _ = FF
  have hF2 : FF = { tmps := #[.agg X, .agg S, .pointer (some ⟨g0, 0, none⟩), .pointer (some ⟨g0 + 1, 0, none⟩), .bool false, .agg X, .bool true, .bool false, .bool false, .agg S, .bool false, .bool true, .bool true, undef, undef, undef, undef, undef, undef, undef, undef, undef, undef, undef, undef, undef, undef, undef, undef], defers := [] } := by subst hF; kernel_rfl
  clear hF
  subst hF2
  go_upto_region 2 with fail
  go_wp2_with fail
  go_ret
  exact ⟨rfl, EE.out⟩
set_option maxHeartbeats 3200000 in
set_option maxRecDepth 100000 in
theorem pc_con3 (L H S : Array Value) (hL : L.size = 10) (hH : H.size = 10) (sS : S.size = 10) (oL : L.all (·.oneCell') = true) (oH : H.all (·.oneCell') = true) (oS : S.all (·.oneCell') = true) (W : World)
   (kv : Hid (∀ w, Calls Tryz.prog 18 #[.agg (coneC true L H)] w (Ret (.bool true) w))) (ks : Hid (∀ w, Calls Tryz.prog 42 #[.agg S] w (Ret (.bool true) w))) :
   Calls Tryz.prog 19 #[.agg (coneC true L H), .agg S] W (Ret (.bool true) W) := by
 have sX := coneC_size true hL hH
 have oX := cone_one true oL oH
 have fo : (coneC true L H)[0]? = some (.bool true) := by rw [coneC, Array.append_assoc, Array.getElem?_append_left (by simp)]; rfl
 have fl := coneC_lo true hL hH
 have fh := coneC_hi true hL hH
 obtain ⟨X, hX⟩ : ∃ X, coneC true L H = X := ⟨_, rfl⟩
 rw [hX] at kv sX oX fo fl fh ⊢
 clear hX
 have P2 := (Blk.new W 29 X).alloc (.cells S 27)
 have P3 := Blk.new (W.alloc (.cells X 29)) 27 S
 rw [alloc_size] at P3
 have EE := hide ((ext_alloc W (.cells X 29)).trans (ext_alloc _ (.cells S 27)))
 obtain ⟨W1, hW1⟩ : ∃ W1, ((W.alloc (.cells X 29)).alloc (.cells S 27)) = W1 := ⟨_, rfl⟩
 obtain ⟨g0, hg⟩ : ∃ g, W.heap.size = g := ⟨_, rfl⟩
 rw [hW1] at P2 P3 EE
 rw [hg] at P2 P3
 have P2_lo : W.heap.size ≤ g0 := by omega
 have P3_lo : W.heap.size ≤ g0 + 1 := by omega
 have HW := hide hW1
 have Hg := hide hg
 clear hW1 hg
 go_enter Tryz.func19, Tryz.ntmps19
 go_upto_region 1 with fail
 rw [HW.out, Hg.out]
 clear HW Hg
 have P2_lt := P2.lt
 have P3_lt := P3.lt
 refine wp_evs [.q, .q, .q, .q, .q, .q, .q, .q] [0, 0, 0, 0, 0, 0, 0, 0] (fun R => [.agg X, .bool true, .bool false, .bool false, .agg S, .bool true, .bool false, .bool false]) (fun _ => (.cells #[] 0 (0, 0))) (fun R _ => (.cells #[] 0 (0, 0))) (fun _ => 0) (XE W) (fun _ => False) (by kernel_rfl) (by kernel_rfl) (by kernel_rfl) rfl (fun _ => rfl) (fun _ h => h.elim) (fun _ _ h => h) (by simp) (by simp) (fun R R' => ⟨fun _ => rfl, fun _ => rfl, fun _ => rfl, fun _ => rfl, fun _ => rfl, fun _ => rfl, fun _ => rfl, fun _ => rfl, trivial⟩) (fun _ _ _ _ => rfl) xe_below EE.out ?ops8 ?end8
 case ops8 =>
   refine ⟨?_, ?_, ?_, ?_, ?_, ?_, ?_, ?_, trivial⟩
   · refine er_q ?vn1 ?hn1 ?kn1 ?gn1 ?_
     case hn1 => exact rfl
     case vn1 => exact (fun R => .agg X)
     case kn1 => exact (fun R => rfl)
     case gn1 => exact gd_none rfl
     intro R s w' hT hs hw ha
     have L := ld_all (P2.sameE hw (fun h => h) (by simp)) uCone rfl iCone sX
     generalize hA : putE _ _ _ _ _ _ _ = AA
     refine q_load rfl ?_ L
     subst hA
     kernel_rfl
   · refine er_q ?vn2 ?hn2 ?kn2 ?gn2 ?_
     case hn2 => exact rfl
     case vn2 => exact (fun R => .bool true)
     case kn2 => exact (fun R => rfl)
     case gn2 => exact gd_none rfl
     intro R s w' hT hs hw ha
     go_simp
     exact kv.out w'
   · refine er_q ?vn3 ?hn3 ?kn3 ?gn3 ?_
     case hn3 => exact rfl
     case vn3 => exact (fun R => .bool false)
     case kn3 => exact (fun R => rfl)
     case gn3 => exact gd_none rfl
     intro R s w' hT hs hw ha
     go_simp
   · refine er_q ?vn4 ?hn4 ?kn4 ?gn4 ?_
     case hn4 => exact rfl
     case vn4 => exact (fun R => .bool false)
     case kn4 => exact (fun R => rfl)
     case gn4 => exact gd_none rfl
     intro R s w' hT hs hw ha
     go_simp
   · refine er_q ?vn5 ?hn5 ?kn5 ?gn5 ?_
     case hn5 => exact rfl
     case vn5 => exact (fun R => .agg S)
     case kn5 => exact (fun R => rfl)
     case gn5 => (refine gd_some rfl ?_; intro R; kernel_rfl)
     intro R s w' hT hs hw ha
     have L := ld_all (P3.sameE hw (fun h => h) (by simp)) uRat rfl iRat sS
     generalize hA : putE _ _ _ _ _ _ _ = AA
     refine q_load rfl ?_ L
     subst hA
     kernel_rfl
   · refine er_q ?vn6 ?hn6 ?kn6 ?gn6 ?_
     case hn6 => exact rfl
     case vn6 => exact (fun R => .bool true)
     case kn6 => exact (fun R => rfl)
     case gn6 => (refine gd_some rfl ?_; intro R; kernel_rfl)
     intro R s w' hT hs hw ha
     go_simp
     exact ks.out w'
   · refine er_q ?vn7 ?hn7 ?kn7 ?gn7 ?_
     case hn7 => exact rfl
     case vn7 => exact (fun R => .bool false)
     case kn7 => exact (fun R => rfl)
     case gn7 => (refine gd_some rfl ?_; intro R; kernel_rfl)
     intro R s w' hT hs hw ha
     go_simp
   · refine er_q ?vn8 ?hn8 ?kn8 ?gn8 ?_
     case hn8 => exact rfl
     case vn8 => exact (fun R => .bool false)
     case kn8 => exact (fun R => rfl)
     case gn8 => exact gd_none rfl
     intro R s w' hT hs hw ha
     go_simp
 case end8 =>
  intro sI R G w9 hI
  have hS := hI.same
  have hTT := hI.holds
  have hz0 := EE.out.size
  have P2 := P2.sameE hS (fun h => h) (by simp)
  have P3 := P3.sameE hS (fun h => h) (by simp)
  have EE := hide (show Ext _ _ from hTT)
  clear hS hz0 hTT hI
  generalize hF : putE _ _ _ _ _ _ _ = FF
  have hF2 : FF = { tmps := #[.agg X, .agg S, .pointer (some ⟨g0, 0, none⟩), .pointer (some ⟨g0 + 1, 0, none⟩), .bool false, .agg X, .bool true, .bool false, .bool false, .agg S, .bool true, .bool false, .bool false, undef, undef, undef, undef, undef, undef, undef, undef, undef, undef, undef, undef, undef, undef, undef, undef], defers := [] } := by subst hF; kernel_rfl
  clear hF
  subst hF2
  go_upto_region 3 with fail
  have P2_lt := P2.lt
  have P3_lt := P3.lt
  refine wp_evs [.q, .q, .q, .sk, .sk, .sk, .sk, .sk, .sk, .sk, .sk, .sk, .sk, .sk, .sk, .q, .q] [0, 0, 0, 0, 0, 0, 0, 0, 0, 0, 0, 0, 0, 0, 0, 0, 0] (fun R => [.pointer (some ⟨g0, 0, none⟩), .bool true, .bool true, undef, undef, undef, undef, undef, undef, undef, undef, undef, undef, undef, undef, .bool true, .bool true]) (fun _ => (.cells #[] 0 (0, 0))) (fun R _ => (.cells #[] 0 (0, 0))) (fun _ => 0) (XE W) (fun _ => False) (by kernel_rfl) (by kernel_rfl) (by kernel_rfl) rfl (fun _ => rfl) (fun _ h => h.elim) (fun _ _ h => h) (by simp) (by simp) (fun R R' => ⟨fun _ => rfl, fun _ => rfl, fun _ => rfl, fun _ => rfl, fun _ => rfl, fun _ => rfl, fun _ => rfl, fun _ => rfl, fun _ => rfl, fun _ => rfl, fun _ => rfl, fun _ => rfl, fun _ => rfl, fun _ => rfl, fun _ => rfl, fun _ => rfl, fun _ => rfl, trivial⟩) (fun _ _ _ _ => rfl) xe_below EE.out ?ops26 ?end26
  case ops26 =>
    refine ⟨?_, ?_, ?_, ?_, ?_, ?_, ?_, ?_, ?_, ?_, ?_, ?_, ?_, ?_, ?_, ?_, ?_, trivial⟩
    · refine er_q ?vn10 ?hn10 ?kn10 ?gn10 ?_
      case hn10 => exact rfl
      case vn10 => exact (fun R => .pointer (some ⟨g0, 0, none⟩))
      case kn10 => exact (fun R => rfl)
      case gn10 => exact gd_none rfl
      intro R s w' hT hs hw ha
      go_simp
    · refine er_q ?vn11 ?hn11 ?kn11 ?gn11 ?_
      case hn11 => exact rfl
      case vn11 => exact (fun R => .bool true)
      case kn11 => exact (fun R => rfl)
      case gn11 => exact gd_none rfl
      intro R s w' hT hs hw ha
      have cc := ((P2.sameE hw (fun h => h) (by simp) : Blk w' g0 _ X).cell 0).trans (fo)
      go_simp
    · refine er_q ?vn12 ?hn12 ?kn12 ?gn12 ?_
      case hn12 => exact rfl
      case vn12 => exact (fun R => .bool true)
      case kn12 => exact (fun R => rfl)
      case gn12 => exact gd_none rfl
      intro R s w' hT hs hw ha
      go_simp
    · refine er_sk ?hn13 ?gn13
      case hn13 => exact rfl
      case gn13 => (refine gd_some rfl ?_; intro R; kernel_rfl)
    · refine er_sk ?hn14 ?gn14
      case hn14 => exact rfl
      case gn14 => (refine gd_some rfl ?_; intro R; kernel_rfl)
    · refine er_sk ?hn15 ?gn15
      case hn15 => exact rfl
      case gn15 => (refine gd_some rfl ?_; intro R; kernel_rfl)
    · refine er_sk ?hn16 ?gn16
      case hn16 => exact rfl
      case gn16 => (refine gd_some rfl ?_; intro R; kernel_rfl)
    · refine er_sk ?hn17 ?gn17
      case hn17 => exact rfl
      case gn17 => (refine gd_some rfl ?_; intro R; kernel_rfl)
    · refine er_sk ?hn18 ?gn18
      case hn18 => exact rfl
      case gn18 => (refine gd_some rfl ?_; intro R; kernel_rfl)
    · refine er_sk ?hn19 ?gn19
      case hn19 => exact rfl
      case gn19 => (refine gd_some rfl ?_; intro R; kernel_rfl)
    · refine er_sk ?hn20 ?gn20
      case hn20 => exact rfl
      case gn20 => (refine gd_some rfl ?_; intro R; kernel_rfl)
    · refine er_sk ?hn21 ?gn21
      case hn21 => exact rfl
      case gn21 => (refine gd_some rfl ?_; intro R; kernel_rfl)
    · refine er_sk ?hn22 ?gn22
      case hn22 => exact rfl
      case gn22 => (refine gd_some rfl ?_; intro R; kernel_rfl)
    · refine er_sk ?hn23 ?gn23
      case hn23 => exact rfl
      case gn23 => (refine gd_some rfl ?_; intro R; kernel_rfl)
    · refine er_sk ?hn24 ?gn24
      case hn24 => exact rfl
      case gn24 => (refine gd_some rfl ?_; intro R; kernel_rfl)
    · refine er_q ?vn25 ?hn25 ?kn25 ?gn25 ?_
      case hn25 => exact rfl
      case vn25 => exact (fun R => .bool true)
      case kn25 => exact (fun R => rfl)
      case gn25 => exact gd_none rfl
      intro R s w' hT hs hw ha
      go_simp
    · refine er_q ?vn26 ?hn26 ?kn26 ?gn26 ?_
      case hn26 => exact rfl
      case vn26 => exact (fun R => .bool true)
      case kn26 => exact (fun R => rfl)
      case gn26 => exact gd_none rfl
      intro R s w' hT hs hw ha
      go_simp
  case end26 =>
   intro sI R G w27 hI
   have hS := hI.same
   have hTT := hI.holds
   have hz0 := EE.out.size
   have P2 := P2.sameE hS (fun h => h) (by simp)
   have P3 := P3.sameE hS (fun h => h) (by simp)
   have EE := hide (show Ext _ _ from hTT)
   clear hS hz0 hTT hI
   generalize hF : putE _ _ _ _ _ _ _ = FF
   have hF2 : FF = { tmps := #[.agg X, .agg S, .pointer (some ⟨g0, 0, none⟩), .pointer (some ⟨g0 + 1, 0, none⟩), .bool true, .agg X, .bool true, .bool false, .bool false, .agg S, .bool true, .bool false, .bool false, .pointer (some ⟨g0, 0, none⟩), .bool true, .bool true, undef, undef, undef, undef, undef, undef, undef, undef, undef, undef, undef, undef, .bool true], defers := [] } := by subst hF; kernel_rfl
   clear hF
   subst hF2
   go_wp2_with fail
   go_ret
   exact ⟨rfl, EE.out⟩
set_option maxHeartbeats 3200000 in
set_option maxRecDepth 100000 in
theorem pc_con4 (L H S : Array Value) (hL : L.size = 10) (hH : H.size = 10) (sS : S.size = 10) (oL : L.all (·.oneCell') = true) (oH : H.all (·.oneCell') = true) (oS : S.all (·.oneCell') = true) (W : World)
   (kv : Hid (∀ w, Calls Tryz.prog 18 #[.agg (coneC false L H)] w (Ret (.bool true) w))) (ks : Hid (∀ w, Calls Tryz.prog 42 #[.agg S] w (Ret (.bool true) w))) (r1 : Int) (K1 : Hid (∀ w, Calls Tryz.prog 38 #[.agg L, .agg S] w (Ret (.int .i64 r1) w))) (h1 : decide (r1 ≤ 0) = false) :
   Calls Tryz.prog 19 #[.agg (coneC false L H), .agg S] W (Ret (.bool false) W) := by
 have sX := coneC_size false hL hH
 have oX := cone_one false oL oH
 have fo : (coneC false L H)[0]? = some (.bool false) := by rw [coneC, Array.append_assoc, Array.getElem?_append_left (by simp)]; rfl
 have fl := coneC_lo false hL hH
 have fh := coneC_hi false hL hH
 obtain ⟨X, hX⟩ : ∃ X, coneC false L H = X := ⟨_, rfl⟩
 rw [hX] at kv sX oX fo fl fh ⊢
 clear hX
 have P2 := (Blk.new W 29 X).alloc (.cells S 27)
 have P3 := Blk.new (W.alloc (.cells X 29)) 27 S
 rw [alloc_size] at P3
 have EE := hide ((ext_alloc W (.cells X 29)).trans (ext_alloc _ (.cells S 27)))
 obtain ⟨W1, hW1⟩ : ∃ W1, ((W.alloc (.cells X 29)).alloc (.cells S 27)) = W1 := ⟨_, rfl⟩
 obtain ⟨g0, hg⟩ : ∃ g, W.heap.size = g := ⟨_, rfl⟩
 rw [hW1] at P2 P3 EE
 rw [hg] at P2 P3
 have P2_lo : W.heap.size ≤ g0 := by omega
 have P3_lo : W.heap.size ≤ g0 + 1 := by omega
 have HW := hide hW1
 have Hg := hide hg
 clear hW1 hg
 go_enter Tryz.func19, Tryz.ntmps19
 go_upto_region 1 with fail
 rw [HW.out, Hg.out]
 clear HW Hg
 have P2_lt := P2.lt
 have P3_lt := P3.lt
 refine wp_evs [.q, .q, .q, .q, .q, .q, .q, .q] [0, 0, 0, 0, 0, 0, 0, 0] (fun R => [.agg X, .bool true, .bool false, .bool false, .agg S, .bool true, .bool false, .bool false]) (fun _ => (.cells #[] 0 (0, 0))) (fun R _ => (.cells #[] 0 (0, 0))) (fun _ => 0) (XE W) (fun _ => False) (by kernel_rfl) (by kernel_rfl) (by kernel_rfl) rfl (fun _ => rfl) (fun _ h => h.elim) (fun _ _ h => h) (by simp) (by simp) (fun R R' => ⟨fun _ => rfl, fun _ => rfl, fun _ => rfl, fun _ => rfl, fun _ => rfl, fun _ => rfl, fun _ => rfl, fun _ => rfl, trivial⟩) (fun _ _ _ _ => rfl) xe_below EE.out ?ops8 ?end8
 case ops8 =>
   refine ⟨?_, ?_, ?_, ?_, ?_, ?_, ?_, ?_, trivial⟩
   · refine er_q ?vn1 ?hn1 ?kn1 ?gn1 ?_
     case hn1 => exact rfl
     case vn1 => exact (fun R => .agg X)
     case kn1 => exact (fun R => rfl)
     case gn1 => exact gd_none rfl
     intro R s w' hT hs hw ha
     have L := ld_all (P2.sameE hw (fun h => h) (by simp)) uCone rfl iCone sX
     generalize hA : putE _ _ _ _ _ _ _ = AA
     refine q_load rfl ?_ L
     subst hA
     kernel_rfl
   · refine er_q ?vn2 ?hn2 ?kn2 ?gn2 ?_
     case hn2 => exact rfl
     case vn2 => exact (fun R => .bool true)
     case kn2 => exact (fun R => rfl)
     case gn2 => exact gd_none rfl
     intro R s w' hT hs hw ha
     go_simp
     exact kv.out w'
   · refine er_q ?vn3 ?hn3 ?kn3 ?gn3 ?_
     case hn3 => exact rfl
     case vn3 => exact (fun R => .bool false)
     case kn3 => exact (fun R => rfl)
     case gn3 => exact gd_none rfl
     intro R s w' hT hs hw ha
     go_simp
   · refine er_q ?vn4 ?hn4 ?kn4 ?gn4 ?_
     case hn4 => exact rfl
     case vn4 => exact (fun R => .bool false)
     case kn4 => exact (fun R => rfl)
     case gn4 => exact gd_none rfl
     intro R s w' hT hs hw ha
     go_simp
   · refine er_q ?vn5 ?hn5 ?kn5 ?gn5 ?_
     case hn5 => exact rfl
     case vn5 => exact (fun R => .agg S)
     case kn5 => exact (fun R => rfl)
     case gn5 => (refine gd_some rfl ?_; intro R; kernel_rfl)
     intro R s w' hT hs hw ha
     have L := ld_all (P3.sameE hw (fun h => h) (by simp)) uRat rfl iRat sS
     generalize hA : putE _ _ _ _ _ _ _ = AA
     refine q_load rfl ?_ L
     subst hA
     kernel_rfl
   · refine er_q ?vn6 ?hn6 ?kn6 ?gn6 ?_
     case hn6 => exact rfl
     case vn6 => exact (fun R => .bool true)
     case kn6 => exact (fun R => rfl)
     case gn6 => (refine gd_some rfl ?_; intro R; kernel_rfl)
     intro R s w' hT hs hw ha
     go_simp
     exact ks.out w'
   · refine er_q ?vn7 ?hn7 ?kn7 ?gn7 ?_
     case hn7 => exact rfl
     case vn7 => exact (fun R => .bool false)
     case kn7 => exact (fun R => rfl)
     case gn7 => (refine gd_some rfl ?_; intro R; kernel_rfl)
     intro R s w' hT hs hw ha
     go_simp
   · refine er_q ?vn8 ?hn8 ?kn8 ?gn8 ?_
     case hn8 => exact rfl
     case vn8 => exact (fun R => .bool false)
     case kn8 => exact (fun R => rfl)
     case gn8 => exact gd_none rfl
     intro R s w' hT hs hw ha
     go_simp
 case end8 =>
  intro sI R G w9 hI
  have hS := hI.same
  have hTT := hI.holds
  have hz0 := EE.out.size
  have P2 := P2.sameE hS (fun h => h) (by simp)
  have P3 := P3.sameE hS (fun h => h) (by simp)
  have EE := hide (show Ext _ _ from hTT)
  clear hS hz0 hTT hI
  generalize hF : putE _ _ _ _ _ _ _ = FF
  have hF2 : FF = { tmps := #[.agg X, .agg S, .pointer (some ⟨g0, 0, none⟩), .pointer (some ⟨g0 + 1, 0, none⟩), .bool false, .agg X, .bool true, .bool false, .bool false, .agg S, .bool true, .bool false, .bool false, undef, undef, undef, undef, undef, undef, undef, undef, undef, undef, undef, undef, undef, undef, undef, undef], defers := [] } := by subst hF; kernel_rfl
  clear hF
  subst hF2
  go_upto_region 3 with fail
  have P2_lt := P2.lt
  have P3_lt := P3.lt
  refine wp_evs [.q, .q, .q, .q, .q, .q, .q, .q, .q, .sk, .sk, .sk, .sk, .sk, .q, .q, .q] [0, 0, 0, 0, 0, 0, 0, 0, 0, 0, 0, 0, 0, 0, 0, 0, 0] (fun R => [.pointer (some ⟨g0, 0, none⟩), .bool false, .bool false, .pointer (some ⟨g0, 1, none⟩), .agg L, .agg S, .int .i64 r1, .bool false, .bool false, undef, undef, undef, undef, undef, .bool false, .bool false, .bool false]) (fun _ => (.cells #[] 0 (0, 0))) (fun R _ => (.cells #[] 0 (0, 0))) (fun _ => 0) (XE W) (fun _ => False) (by kernel_rfl) (by kernel_rfl) (by kernel_rfl) rfl (fun _ => rfl) (fun _ h => h.elim) (fun _ _ h => h) (by simp) (by simp) (fun R R' => ⟨fun _ => rfl, fun _ => rfl, fun _ => rfl, fun _ => rfl, fun _ => rfl, fun _ => rfl, fun _ => rfl, fun _ => rfl, fun _ => rfl, fun _ => rfl, fun _ => rfl, fun _ => rfl, fun _ => rfl, fun _ => rfl, fun _ => rfl, fun _ => rfl, fun _ => rfl, trivial⟩) (fun _ _ _ _ => rfl) xe_below EE.out ?ops26 ?end26
  case ops26 =>
    refine ⟨?_, ?_, ?_, ?_, ?_, ?_, ?_, ?_, ?_, ?_, ?_, ?_, ?_, ?_, ?_, ?_, ?_, trivial⟩
    · refine er_q ?vn10 ?hn10 ?kn10 ?gn10 ?_
      case hn10 => exact rfl
      case vn10 => exact (fun R => .pointer (some ⟨g0, 0, none⟩))
      case kn10 => exact (fun R => rfl)
      case gn10 => exact gd_none rfl
      intro R s w' hT hs hw ha
      go_simp
    · refine er_q ?vn11 ?hn11 ?kn11 ?gn11 ?_
      case hn11 => exact rfl
      case vn11 => exact (fun R => .bool false)
      case kn11 => exact (fun R => rfl)
      case gn11 => exact gd_none rfl
      intro R s w' hT hs hw ha
      have cc := ((P2.sameE hw (fun h => h) (by simp) : Blk w' g0 _ X).cell 0).trans (fo)
      go_simp
    · refine er_q ?vn12 ?hn12 ?kn12 ?gn12 ?_
      case hn12 => exact rfl
      case vn12 => exact (fun R => .bool false)
      case kn12 => exact (fun R => rfl)
      case gn12 => exact gd_none rfl
      intro R s w' hT hs hw ha
      go_simp
    · refine er_q ?vn13 ?hn13 ?kn13 ?gn13 ?_
      case hn13 => exact rfl
      case vn13 => exact (fun R => .pointer (some ⟨g0, 1, none⟩))
      case kn13 => exact (fun R => rfl)
      case gn13 => (refine gd_some rfl ?_; intro R; kernel_rfl)
      intro R s w' hT hs hw ha
      go_simp
    · refine er_q ?vn14 ?hn14 ?kn14 ?gn14 ?_
      case hn14 => exact rfl
      case vn14 => exact (fun R => .agg L)
      case kn14 => exact (fun R => rfl)
      case gn14 => (refine gd_some rfl ?_; intro R; kernel_rfl)
      intro R s w' hT hs hw ha
      have L := run_load_part (P2.sameE hw (fun h => h) (by simp)) _ _ uRat rfl 1 10 iRat (by rw [sX]; decide) _ (fl)
      generalize hA : putE _ _ _ _ _ _ _ = AA
      refine q_load rfl ?_ L
      subst hA
      kernel_rfl
    · refine er_q ?vn15 ?hn15 ?kn15 ?gn15 ?_
      case hn15 => exact rfl
      case vn15 => exact (fun R => .agg S)
      case kn15 => exact (fun R => rfl)
      case gn15 => (refine gd_some rfl ?_; intro R; kernel_rfl)
      intro R s w' hT hs hw ha
      have L := ld_all (P3.sameE hw (fun h => h) (by simp)) uRat rfl iRat sS
      generalize hA : putE _ _ _ _ _ _ _ = AA
      refine q_load rfl ?_ L
      subst hA
      kernel_rfl
    · refine er_q ?vn16 ?hn16 ?kn16 ?gn16 ?_
      case hn16 => exact rfl
      case vn16 => exact (fun R => .int .i64 r1)
      case kn16 => exact (fun R => rfl)
      case gn16 => (refine gd_some rfl ?_; intro R; kernel_rfl)
      intro R s w' hT hs hw ha
      go_simp
      exact K1.out w'
    · refine er_q ?vn17 ?hn17 ?kn17 ?gn17 ?_
      case hn17 => exact rfl
      case vn17 => exact (fun R => .bool false)
      case kn17 => exact (fun R => rfl)
      case gn17 => (refine gd_some rfl ?_; intro R; kernel_rfl)
      intro R s w' hT hs hw ha
      go_simp
    · refine er_q ?vn18 ?hn18 ?kn18 ?gn18 ?_
      case hn18 => exact rfl
      case vn18 => exact (fun R => .bool false)
      case kn18 => exact (fun R => rfl)
      case gn18 => (refine gd_some rfl ?_; intro R; kernel_rfl)
      intro R s w' hT hs hw ha
      go_simp
    · refine er_sk ?hn19 ?gn19
      case hn19 => exact rfl
      case gn19 => (refine gd_some rfl ?_; intro R; kernel_rfl)
    · refine er_sk ?hn20 ?gn20
      case hn20 => exact rfl
      case gn20 => (refine gd_some rfl ?_; intro R; kernel_rfl)
    · refine er_sk ?hn21 ?gn21
      case hn21 => exact rfl
      case gn21 => (refine gd_some rfl ?_; intro R; kernel_rfl)
    · refine er_sk ?hn22 ?gn22
      case hn22 => exact rfl
      case gn22 => (refine gd_some rfl ?_; intro R; kernel_rfl)
    · refine er_sk ?hn23 ?gn23
      case hn23 => exact rfl
      case gn23 => (refine gd_some rfl ?_; intro R; kernel_rfl)
    · refine er_q ?vn24 ?hn24 ?kn24 ?gn24 ?_
      case hn24 => exact rfl
      case vn24 => exact (fun R => .bool false)
      case kn24 => exact (fun R => rfl)
      case gn24 => (refine gd_some rfl ?_; intro R; kernel_rfl)
      intro R s w' hT hs hw ha
      go_simp
    · refine er_q ?vn25 ?hn25 ?kn25 ?gn25 ?_
      case hn25 => exact rfl
      case vn25 => exact (fun R => .bool false)
      case kn25 => exact (fun R => rfl)
      case gn25 => exact gd_none rfl
      intro R s w' hT hs hw ha
      go_simp
    · refine er_q ?vn26 ?hn26 ?kn26 ?gn26 ?_
      case hn26 => exact rfl
      case vn26 => exact (fun R => .bool false)
      case kn26 => exact (fun R => rfl)
      case gn26 => exact gd_none rfl
      intro R s w' hT hs hw ha
      go_simp
  case end26 =>
   intro sI R G w27 hI
   have hS := hI.same
   have hTT := hI.holds
   have hz0 := EE.out.size
   have P2 := P2.sameE hS (fun h => h) (by simp)
   have P3 := P3.sameE hS (fun h => h) (by simp)
   have EE := hide (show Ext _ _ from hTT)
   clear hS hz0 hTT hI
   generalize hF : putE _ _ _ _ _ _ _ = FF
   have hF2 : FF = { tmps := #[.agg X, .agg S, .pointer (some ⟨g0, 0, none⟩), .pointer (some ⟨g0 + 1, 0, none⟩), .bool false, .agg X, .bool true, .bool false, .bool false, .agg S, .bool true, .bool false, .bool false, .pointer (some ⟨g0, 0, none⟩), .bool false, .bool false, .pointer (some ⟨g0, 1, none⟩), .agg L, .agg S, .int .i64 r1, .bool false, .bool false, undef, undef, undef, undef, undef, .bool false, .bool false], defers := [] } := by subst hF; kernel_rfl
   clear hF
   subst hF2
   go_wp2_with fail
   go_ret
   exact ⟨rfl, EE.out⟩
set_option maxHeartbeats 3200000 in
set_option maxRecDepth 100000 in
theorem pc_con5 (L H S : Array Value) (hL : L.size = 10) (hH : H.size = 10) (sS : S.size = 10) (oL : L.all (·.oneCell') = true) (oH : H.all (·.oneCell') = true) (oS : S.all (·.oneCell') = true) (W : World)
   (kv : Hid (∀ w, Calls Tryz.prog 18 #[.agg (coneC false L H)] w (Ret (.bool true) w))) (ks : Hid (∀ w, Calls Tryz.prog 42 #[.agg S] w (Ret (.bool true) w))) (r1 r2 : Int) (K1 : Hid (∀ w, Calls Tryz.prog 38 #[.agg L, .agg S] w (Ret (.int .i64 r1) w))) (K2 : Hid (∀ w, Calls Tryz.prog 38 #[.agg S, .agg H] w (Ret (.int .i64 r2) w))) (h1 : decide (r1 ≤ 0) = true) :
   Calls Tryz.prog 19 #[.agg (coneC false L H), .agg S] W (Ret (.bool (decide (r2 ≤ 0))) W) := by
 have sX := coneC_size false hL hH
 have oX := cone_one false oL oH
 have fo : (coneC false L H)[0]? = some (.bool false) := by rw [coneC, Array.append_assoc, Array.getElem?_append_left (by simp)]; rfl
 have fl := coneC_lo false hL hH
 have fh := coneC_hi false hL hH
 obtain ⟨X, hX⟩ : ∃ X, coneC false L H = X := ⟨_, rfl⟩
 rw [hX] at kv sX oX fo fl fh ⊢
 clear hX
 have P2 := (Blk.new W 29 X).alloc (.cells S 27)
 have P3 := Blk.new (W.alloc (.cells X 29)) 27 S
 rw [alloc_size] at P3
 have EE := hide ((ext_alloc W (.cells X 29)).trans (ext_alloc _ (.cells S 27)))
 obtain ⟨W1, hW1⟩ : ∃ W1, ((W.alloc (.cells X 29)).alloc (.cells S 27)) = W1 := ⟨_, rfl⟩
 obtain ⟨g0, hg⟩ : ∃ g, W.heap.size = g := ⟨_, rfl⟩
 rw [hW1] at P2 P3 EE
 rw [hg] at P2 P3
 have P2_lo : W.heap.size ≤ g0 := by omega
 have P3_lo : W.heap.size ≤ g0 + 1 := by omega
 have HW := hide hW1
 have Hg := hide hg
 clear hW1 hg
 go_enter Tryz.func19, Tryz.ntmps19
 go_upto_region 1 with fail
 rw [HW.out, Hg.out]
 clear HW Hg
 have P2_lt := P2.lt
 have P3_lt := P3.lt
 refine wp_evs [.q, .q, .q, .q, .q, .q, .q, .q] [0, 0, 0, 0, 0, 0, 0, 0] (fun R => [.agg X, .bool true, .bool false, .bool false, .agg S, .bool true, .bool false, .bool false]) (fun _ => (.cells #[] 0 (0, 0))) (fun R _ => (.cells #[] 0 (0, 0))) (fun _ => 0) (XE W) (fun _ => False) (by kernel_rfl) (by kernel_rfl) (by kernel_rfl) rfl (fun _ => rfl) (fun _ h => h.elim) (fun _ _ h => h) (by simp) (by simp) (fun R R' => ⟨fun _ => rfl, fun _ => rfl, fun _ => rfl, fun _ => rfl, fun _ => rfl, fun _ => rfl, fun _ => rfl, fun _ => rfl, trivial⟩) (fun _ _ _ _ => rfl) xe_below EE.out ?ops8 ?end8
 case ops8 =>
   refine ⟨?_, ?_, ?_, ?_, ?_, ?_, ?_, ?_, trivial⟩
   · refine er_q ?vn1 ?hn1 ?kn1 ?gn1 ?_
     case hn1 => exact rfl
     case vn1 => exact (fun R => .agg X)
     case kn1 => exact (fun R => rfl)
     case gn1 => exact gd_none rfl
     intro R s w' hT hs hw ha
     have L := ld_all (P2.sameE hw (fun h => h) (by simp)) uCone rfl iCone sX
     generalize hA : putE _ _ _ _ _ _ _ = AA
     refine q_load rfl ?_ L
     subst hA
     kernel_rfl
   · refine er_q ?vn2 ?hn2 ?kn2 ?gn2 ?_
     case hn2 => exact rfl
     case vn2 => exact (fun R => .bool true)
     case kn2 => exact (fun R => rfl)
     case gn2 => exact gd_none rfl
     intro R s w' hT hs hw ha
     go_simp
     exact kv.out w'
   · refine er_q ?vn3 ?hn3 ?kn3 ?gn3 ?_
     case hn3 => exact rfl
     case vn3 => exact (fun R => .bool false)
     case kn3 => exact (fun R => rfl)
     case gn3 => exact gd_none rfl
     intro R s w' hT hs hw ha
     go_simp
   · refine er_q ?vn4 ?hn4 ?kn4 ?gn4 ?_
     case hn4 => exact rfl
     case vn4 => exact (fun R => .bool false)
     case kn4 => exact (fun R => rfl)
     case gn4 => exact gd_none rfl
     intro R s w' hT hs hw ha
     go_simp
   · refine er_q ?vn5 ?hn5 ?kn5 ?gn5 ?_
     case hn5 => exact rfl
     case vn5 => exact (fun R => .agg S)
     case kn5 => exact (fun R => rfl)
     case gn5 => (refine gd_some rfl ?_; intro R; kernel_rfl)
     intro R s w' hT hs hw ha
     have L := ld_all (P3.sameE hw (fun h => h) (by simp)) uRat rfl iRat sS
     generalize hA : putE _ _ _ _ _ _ _ = AA
     refine q_load rfl ?_ L
     subst hA
     kernel_rfl
   · refine er_q ?vn6 ?hn6 ?kn6 ?gn6 ?_
     case hn6 => exact rfl
     case vn6 => exact (fun R => .bool true)
     case kn6 => exact (fun R => rfl)
     case gn6 => (refine gd_some rfl ?_; intro R; kernel_rfl)
     intro R s w' hT hs hw ha
     go_simp
     exact ks.out w'
   · refine er_q ?vn7 ?hn7 ?kn7 ?gn7 ?_
     case hn7 => exact rfl
     case vn7 => exact (fun R => .bool false)
     case kn7 => exact (fun R => rfl)
     case gn7 => (refine gd_some rfl ?_; intro R; kernel_rfl)
     intro R s w' hT hs hw ha
     go_simp
   · refine er_q ?vn8 ?hn8 ?kn8 ?gn8 ?_
     case hn8 => exact rfl
     case vn8 => exact (fun R => .bool false)
     case kn8 => exact (fun R => rfl)
     case gn8 => exact gd_none rfl
     intro R s w' hT hs hw ha
     go_simp
 case end8 =>
  intro sI R G w9 hI
  have hS := hI.same
  have hTT := hI.holds
  have hz0 := EE.out.size
  have P2 := P2.sameE hS (fun h => h) (by simp)
  have P3 := P3.sameE hS (fun h => h) (by simp)
  have EE := hide (show Ext _ _ from hTT)
  clear hS hz0 hTT hI
  generalize hF : putE _ _ _ _ _ _ _ = FF
  have hF2 : FF = { tmps := #[.agg X, .agg S, .pointer (some ⟨g0, 0, none⟩), .pointer (some ⟨g0 + 1, 0, none⟩), .bool false, .agg X, .bool true, .bool false, .bool false, .agg S, .bool true, .bool false, .bool false, undef, undef, undef, undef, undef, undef, undef, undef, undef, undef, undef, undef, undef, undef, undef, undef], defers := [] } := by subst hF; kernel_rfl
  clear hF
  subst hF2
  go_upto_region 3 with fail
  have P2_lt := P2.lt
  have P3_lt := P3.lt
  refine wp_evs [.q, .q, .q, .q, .q, .q, .q, .q, .q, .q, .q, .q, .q, .q, .q, .q, .q] [0, 0, 0, 0, 0, 0, 0, 0, 0, 0, 0, 0, 0, 0, 0, 0, 0] (fun R => [.pointer (some ⟨g0, 0, none⟩), .bool false, .bool false, .pointer (some ⟨g0, 1, none⟩), .agg L, .agg S, .int .i64 r1, .bool true, .bool true, .agg S, .pointer (some ⟨g0, 11, none⟩), .agg H, .int .i64 r2, .bool (decide (r2 ≤ 0)), .bool (decide (r2 ≤ 0)), .bool (decide (r2 ≤ 0)), .bool (decide (r2 ≤ 0))]) (fun _ => (.cells #[] 0 (0, 0))) (fun R _ => (.cells #[] 0 (0, 0))) (fun _ => 0) (XE W) (fun _ => False) (by kernel_rfl) (by kernel_rfl) (by kernel_rfl) rfl (fun _ => rfl) (fun _ h => h.elim) (fun _ _ h => h) (by simp) (by simp) (fun R R' => ⟨fun _ => rfl, fun _ => rfl, fun _ => rfl, fun _ => rfl, fun _ => rfl, fun _ => rfl, fun _ => rfl, fun _ => rfl, fun _ => rfl, fun _ => rfl, fun _ => rfl, fun _ => rfl, fun _ => rfl, fun _ => rfl, fun _ => rfl, fun _ => rfl, fun _ => rfl, trivial⟩) (fun _ _ _ _ => rfl) xe_below EE.out ?ops26 ?end26
  case ops26 =>
    refine ⟨?_, ?_, ?_, ?_, ?_, ?_, ?_, ?_, ?_, ?_, ?_, ?_, ?_, ?_, ?_, ?_, ?_, trivial⟩
    · refine er_q ?vn10 ?hn10 ?kn10 ?gn10 ?_
      case hn10 => exact rfl
      case vn10 => exact (fun R => .pointer (some ⟨g0, 0, none⟩))
      case kn10 => exact (fun R => rfl)
      case gn10 => exact gd_none rfl
      intro R s w' hT hs hw ha
      go_simp
    · refine er_q ?vn11 ?hn11 ?kn11 ?gn11 ?_
      case hn11 => exact rfl
      case vn11 => exact (fun R => .bool false)
      case kn11 => exact (fun R => rfl)
      case gn11 => exact gd_none rfl
      intro R s w' hT hs hw ha
      have cc := ((P2.sameE hw (fun h => h) (by simp) : Blk w' g0 _ X).cell 0).trans (fo)
      go_simp
    · refine er_q ?vn12 ?hn12 ?kn12 ?gn12 ?_
      case hn12 => exact rfl
      case vn12 => exact (fun R => .bool false)
      case kn12 => exact (fun R => rfl)
      case gn12 => exact gd_none rfl
      intro R s w' hT hs hw ha
      go_simp
    · refine er_q ?vn13 ?hn13 ?kn13 ?gn13 ?_
      case hn13 => exact rfl
      case vn13 => exact (fun R => .pointer (some ⟨g0, 1, none⟩))
      case kn13 => exact (fun R => rfl)
      case gn13 => (refine gd_some rfl ?_; intro R; kernel_rfl)
      intro R s w' hT hs hw ha
      go_simp
    · refine er_q ?vn14 ?hn14 ?kn14 ?gn14 ?_
      case hn14 => exact rfl
      case vn14 => exact (fun R => .agg L)
      case kn14 => exact (fun R => rfl)
      case gn14 => (refine gd_some rfl ?_; intro R; kernel_rfl)
      intro R s w' hT hs hw ha
      have L := run_load_part (P2.sameE hw (fun h => h) (by simp)) _ _ uRat rfl 1 10 iRat (by rw [sX]; decide) _ (fl)
      generalize hA : putE _ _ _ _ _ _ _ = AA
      refine q_load rfl ?_ L
      subst hA
      kernel_rfl
    · refine er_q ?vn15 ?hn15 ?kn15 ?gn15 ?_
      case hn15 => exact rfl
      case vn15 => exact (fun R => .agg S)
      case kn15 => exact (fun R => rfl)
      case gn15 => (refine gd_some rfl ?_; intro R; kernel_rfl)
      intro R s w' hT hs hw ha
      have L := ld_all (P3.sameE hw (fun h => h) (by simp)) uRat rfl iRat sS
      generalize hA : putE _ _ _ _ _ _ _ = AA
      refine q_load rfl ?_ L
      subst hA
      kernel_rfl
    · refine er_q ?vn16 ?hn16 ?kn16 ?gn16 ?_
      case hn16 => exact rfl
      case vn16 => exact (fun R => .int .i64 r1)
      case kn16 => exact (fun R => rfl)
      case gn16 => (refine gd_some rfl ?_; intro R; kernel_rfl)
      intro R s w' hT hs hw ha
      go_simp
      exact K1.out w'
    · refine er_q ?vn17 ?hn17 ?kn17 ?gn17 ?_
      case hn17 => exact rfl
      case vn17 => exact (fun R => .bool true)
      case kn17 => exact (fun R => rfl)
      case gn17 => (refine gd_some rfl ?_; intro R; kernel_rfl)
      intro R s w' hT hs hw ha
      go_simp
    · refine er_q ?vn18 ?hn18 ?kn18 ?gn18 ?_
      case hn18 => exact rfl
      case vn18 => exact (fun R => .bool true)
      case kn18 => exact (fun R => rfl)
      case gn18 => (refine gd_some rfl ?_; intro R; kernel_rfl)
      intro R s w' hT hs hw ha
      go_simp
    · refine er_q ?vn19 ?hn19 ?kn19 ?gn19 ?_
      case hn19 => exact rfl
      case vn19 => exact (fun R => .agg S)
      case kn19 => exact (fun R => rfl)
      case gn19 => (refine gd_some rfl ?_; intro R; kernel_rfl)
      intro R s w' hT hs hw ha
      have L := ld_all (P3.sameE hw (fun h => h) (by simp)) uRat rfl iRat sS
      generalize hA : putE _ _ _ _ _ _ _ = AA
      refine q_load rfl ?_ L
      subst hA
      kernel_rfl
    · refine er_q ?vn20 ?hn20 ?kn20 ?gn20 ?_
      case hn20 => exact rfl
      case vn20 => exact (fun R => .pointer (some ⟨g0, 11, none⟩))
      case kn20 => exact (fun R => rfl)
      case gn20 => (refine gd_some rfl ?_; intro R; kernel_rfl)
      intro R s w' hT hs hw ha
      go_simp
    · refine er_q ?vn21 ?hn21 ?kn21 ?gn21 ?_
      case hn21 => exact rfl
      case vn21 => exact (fun R => .agg H)
      case kn21 => exact (fun R => rfl)
      case gn21 => (refine gd_some rfl ?_; intro R; kernel_rfl)
      intro R s w' hT hs hw ha
      have L := run_load_part (P2.sameE hw (fun h => h) (by simp)) _ _ uRat rfl 11 10 iRat (by rw [sX]; decide) _ (fh)
      generalize hA : putE _ _ _ _ _ _ _ = AA
      refine q_load rfl ?_ L
      subst hA
      kernel_rfl
    · refine er_q ?vn22 ?hn22 ?kn22 ?gn22 ?_
      case hn22 => exact rfl
      case vn22 => exact (fun R => .int .i64 r2)
      case kn22 => exact (fun R => rfl)
      case gn22 => (refine gd_some rfl ?_; intro R; kernel_rfl)
      intro R s w' hT hs hw ha
      go_simp
      exact K2.out w'
    · refine er_q ?vn23 ?hn23 ?kn23 ?gn23 ?_
      case hn23 => exact rfl
      case vn23 => exact (fun R => .bool (decide (r2 ≤ 0)))
      case kn23 => exact (fun R => rfl)
      case gn23 => (refine gd_some rfl ?_; intro R; kernel_rfl)
      intro R s w' hT hs hw ha
      go_simp
    · refine er_q ?vn24 ?hn24 ?kn24 ?gn24 ?_
      case hn24 => exact rfl
      case vn24 => exact (fun R => .bool (decide (r2 ≤ 0)))
      case kn24 => exact (fun R => rfl)
      case gn24 => (refine gd_some rfl ?_; intro R; kernel_rfl)
      intro R s w' hT hs hw ha
      go_simp
    · refine er_q ?vn25 ?hn25 ?kn25 ?gn25 ?_
      case hn25 => exact rfl
      case vn25 => exact (fun R => .bool (decide (r2 ≤ 0)))
      case kn25 => exact (fun R => rfl)
      case gn25 => exact gd_none rfl
      intro R s w' hT hs hw ha
      go_simp
    · refine er_q ?vn26 ?hn26 ?kn26 ?gn26 ?_
      case hn26 => exact rfl
      case vn26 => exact (fun R => .bool (decide (r2 ≤ 0)))
      case kn26 => exact (fun R => rfl)
      case gn26 => exact gd_none rfl
      intro R s w' hT hs hw ha
      go_simp
  case end26 =>
   intro sI R G w27 hI
   have hS := hI.same
   have hTT := hI.holds
   have hz0 := EE.out.size
   have P2 := P2.sameE hS (fun h => h) (by simp)
   have P3 := P3.sameE hS (fun h => h) (by simp)
   have EE := hide (show Ext _ _ from hTT)
   clear hS hz0 hTT hI
   generalize hF : putE _ _ _ _ _ _ _ = FF
   have hF2 : FF = { tmps := #[.agg X, .agg S, .pointer (some ⟨g0, 0, none⟩), .pointer (some ⟨g0 + 1, 0, none⟩), .bool (decide (r2 ≤ 0)), .agg X, .bool true, .bool false, .bool false, .agg S, .bool true, .bool false, .bool false, .pointer (some ⟨g0, 0, none⟩), .bool false, .bool false, .pointer (some ⟨g0, 1, none⟩), .agg L, .agg S, .int .i64 r1, .bool true, .bool true, .agg S, .pointer (some ⟨g0, 11, none⟩), .agg H, .int .i64 r2, .bool (decide (r2 ≤ 0)), .bool (decide (r2 ≤ 0)), .bool (decide (r2 ≤ 0))], defers := [] } := by subst hF; kernel_rfl
   clear hF
   subst hF2
   go_wp2_with fail
   go_ret
   exact ⟨rfl, EE.out⟩
end
section
open Go Go.RowKit Go.Sort
theorem g_cmpC {r s : Fr} (hr : okF r) (hs : okF s) {k : Int} (hk : cmpI (r.1 * s.2) (s.1 * r.2) = k) (w : World) : Calls Tryz.prog 38 #[.agg (frC r), .agg (frC s)] w (Ret (.int .i64 k) w) := g_cmp hr hs hk w
theorem p_val : PVal 18 := fun c hc w => by
 cases c with
 | op => exact pc_valid true zR zR rfl rfl w true false false 0 (fun _ w => eq_cone true RC.zero RC.zero w) (fun h => by cases h) (fun h => by cases h) (fun h => by cases h) true rfl
 | cl a b =>
   obtain ⟨r, hr⟩ : ∃ r, cmpI (a.1 * b.2) (b.1 * a.2) = r := ⟨_, rfl⟩
   exact pc_valid false (frC a) (frC b) rfl rfl w true true true r (fun h => by cases h) (fun _ w => g_valid hc.1 w) (fun _ w => g_valid hc.2.1 w) (fun _ _ _ w => g_cmpC hc.1 hc.2.1 hr w) true (by rw [cmpF_le hr, decide_eq_true hc.2.2]; rfl)
theorem p_con5 {L H S : Array Value} (hL : RC L) (hH : RC H) (hS : RC S) (W : World) (vs : Bool) (r1 r2 : Int) (o : Bool)
   (KV : ∀ w, Calls Tryz.prog 18 #[.agg (coneC o L H)] w (Ret (.bool true) w)) (KS : ∀ w, Calls Tryz.prog 42 #[.agg S] w (Ret (.bool vs) w))
   (K1 : vs = true → o = false → ∀ w, Calls Tryz.prog 38 #[.agg L, .agg S] w (Ret (.int .i64 r1) w)) (K2 : vs = true → o = false → ∀ w, Calls Tryz.prog 38 #[.agg S, .agg H] w (Ret (.int .i64 r2) w)) (v : Bool) (hv : (vs && (o || (decide (r1 ≤ 0) && decide (r2 ≤ 0)))) = v) :
   Calls Tryz.prog 19 #[.agg (coneC o L H), .agg S] W (Ret (.bool v) W) := by
 cases vs with
 | false => subst hv; exact pc_con2 o L H S hL.size hH.size hS.size hL.one hH.one hS.one W (hide KV) (hide KS)
 | true =>
   cases o with
   | true => subst hv; exact pc_con3 L H S hL.size hH.size hS.size hL.one hH.one hS.one W (hide KV) (hide KS)
   | false =>
     by_cases h1 : r1 ≤ 0
     · rw [decide_eq_true h1] at hv
       subst hv
       exact pc_con5 L H S hL.size hH.size hS.size hL.one hH.one hS.one W (hide KV) (hide KS) r1 r2 (hide (K1 rfl rfl)) (hide (K2 rfl rfl)) (decide_eq_true h1)
     · rw [decide_eq_false h1] at hv
       subst hv
       exact pc_con4 L H S hL.size hH.size hS.size hL.one hH.one hS.one W (hide KV) (hide KS) r1 (hide (K1 rfl rfl)) (decide_eq_false h1)
theorem p_con : PCon 19 := fun c s hc hs w => by
 have kv := fun w => p_val c hc w
 cases c with
 | op => exact p_con5 (L := zR) (H := zR) (S := frC s) RC.zero RC.zero (frC_rc _) w true 0 0 true kv (fun w => g_valid hs w) (fun _ h => by cases h) (fun _ h => by cases h) _ (by simp [inC]; exact decide_eq_true trivial)
 | cl a b =>
   obtain ⟨r1, h1⟩ : ∃ r, cmpI (a.1 * s.2) (s.1 * a.2) = r := ⟨_, rfl⟩
   obtain ⟨r2, h2⟩ : ∃ r, cmpI (s.1 * b.2) (b.1 * s.2) = r := ⟨_, rfl⟩
   exact p_con5 (L := frC a) (H := frC b) (S := frC s) (frC_rc _) (frC_rc _) (frC_rc _) w true r1 r2 false kv (fun w => g_valid hs w) (fun _ _ w => g_cmpC hc.1 hs h1 w) (fun _ _ w => g_cmpC hs hc.2.1 h2 w) _ (by
     rw [cmpF_le h1, cmpF_le h2]
     unfold inC
     by_cases p : leF a s <;> by_cases q : leF s b <;> simp [p, q])
theorem p_cho : PCho 16 := fun c hc => by
 cases c with
 | op => exact ⟨(0, 1), rfl, fun w => pc_choose true zR zR (frC (0, 1)) zR rfl rfl rfl (frC_rc _).one rfl zR_one w true false (fun w => p_val .op trivial w) (fun _ _ w => g_of (by omega) (by omega) w) (fun _ h => by cases h)⟩
 | cl a b =>
   obtain ⟨n, m, B⟩ := best_some hc.1.1 hc.2.1.1 hc.2.2
   exact ⟨(n, m), B, fun w => pc_choose false (frC a) (frC b) zR (frC (n, m)) rfl rfl rfl zR_one rfl (frC_rc _).one w true true (fun w => p_val (.cl a b) hc w) (fun _ h => by cases h) (fun _ _ w => s_between hc.1 hc.2.1 hc.2.2 B w)⟩
theorem p_mee : PMee 15 := fun a b ha hb w => by
 have ka := fun w => p_val a ha w
 have kb := fun w => p_val b hb w
 cases a with
 | op =>
   cases b with
   | op => exact pc_meet true true zR zR zR zR rfl rfl rfl rfl zR_one zR_one zR_one zR_one w true true 0 0 0 ka (fun _ => kb) (fun _ _ h => by cases h) (fun _ _ h => by cases h) (fun _ _ h => by cases h)
   | cl lb hb' => exact pc_meet true false zR zR (frC lb) (frC hb') rfl rfl rfl rfl zR_one zR_one (frC_rc _).one (frC_rc _).one w true true 0 0 0 ka (fun _ => kb) (fun _ _ h => by cases h) (fun _ _ h => by cases h) (fun _ _ h => by cases h)
 | cl la ha' =>
   cases b with
   | op => exact pc_meet false true (frC la) (frC ha') zR zR rfl rfl rfl rfl (frC_rc _).one (frC_rc _).one zR_one zR_one w true true 0 0 0 ka (fun _ => kb) (fun _ _ _ h => by cases h) (fun _ _ _ h => by cases h) (fun _ _ _ h => by cases h)
   | cl lb hb' =>
     obtain ⟨c1, h1⟩ : ∃ r, cmpI (la.1 * lb.2) (lb.1 * la.2) = r := ⟨_, rfl⟩
     obtain ⟨c2, h2⟩ : ∃ r, cmpI (ha'.1 * hb'.2) (hb'.1 * ha'.2) = r := ⟨_, rfl⟩
     have e1 : (if c1 < 0 then frC lb else frC la) = frC (maxF la lb) := by
       unfold maxF
       by_cases p : leF lb la
       · rw [if_pos p, if_neg (fun q => (cmpF_lt h1).2.1 q p)]
       · rw [if_neg p, if_pos ((cmpF_lt h1).2.2 p)]
     have e2 : (if 0 < c2 then frC hb' else frC ha') = frC (minF ha' hb') := by
       unfold minF
       by_cases p : leF ha' hb'
       · rw [if_pos p, if_neg (fun q => (cmpF_lt h2).1.1 q p)]
       · rw [if_neg p, if_pos ((cmpF_lt h2).1.2 p)]
     obtain ⟨c3, h3⟩ : ∃ r, cmpI ((maxF la lb).1 * (minF ha' hb').2) ((minF ha' hb').1 * (maxF la lb).2) = r := ⟨_, rfl⟩
     have hm := maxF_ok ha.1 hb.1
     have hn := minF_ok ha.2.1 hb.2.1
     have := pc_meet false false (frC la) (frC ha') (frC lb) (frC hb') rfl rfl rfl rfl (frC_rc _).one (frC_rc _).one (frC_rc _).one (frC_rc _).one w true true c1 c2 c3 ka (fun _ => kb) (fun _ _ _ _ w => g_cmpC ha.1 hb.1 h1 w) (fun _ _ _ _ w => g_cmpC ha.2.1 hb.2.1 h2 w) (fun _ _ _ _ w => by rw [e1, e2]; exact g_cmpC hm hn h3 w)
     have em : metP true true false false (frC la) (frC ha') (frC lb) (frC hb') c1 c2 c3 = (moC (meetC (.cl la ha') (.cl lb hb')), (meetC (.cl la ha') (.cl lb hb')).isSome) := by
       unfold metP
       rw [e1, e2]
       simp only [meetC]
       by_cases p : leF (maxF la lb) (minF ha' hb')
       · rw [if_pos p]
         have : ¬ 0 < c3 := fun q => (cmpF_lt h3).1.1 q p
         simp [this, moC, cnC]
       · rw [if_neg p]
         have : 0 < c3 := (cmpF_lt h3).1.2 p
         simp [this, moC]
     rw [em] at this
     exact this
theorem p_ratB {S : Array Value} (h : BadR S) (w : World) : Calls Tryz.prog 42 #[.agg S] w (Ret (.bool false) w) := by
 obtain ⟨s, a, b, c, d, t, e, f, g, i, n, m, rfl, hx, hy, hr⟩ := h
 exact r_valid s t a b c d e f g i n m w hx hy false (decide_eq_false hr)
theorem p_ratO {S : Array Value} (h : OkR S) (w : World) : Calls Tryz.prog 42 #[.agg S] w (Ret (.bool true) w) := by
 obtain ⟨f, hf, rfl⟩ := h
 exact g_valid hf w
theorem p_valB {X : Array Value} (h : BadC X) (w : World) : Calls Tryz.prog 18 #[.agg X] w (Ret (.bool false) w) := by
 obtain ⟨o, L, H, rfl, hL, hH, hb⟩ := h
 have sL := hL.rc.size
 have sH := hH.rc.size
 rcases hb with ⟨rfl, hb⟩ | ⟨rfl, hb⟩
 · exact pc_valid true L H sL sH w false false false 0 (fun _ w => eq_cone_open hL.rc hH.rc false (by simp [hb]) w) (fun h => by cases h) (fun h => by cases h) (fun h => by cases h) false rfl
 · rcases hb with hb | ⟨ho, hb⟩ | ⟨f, g, hf, hg, rfl, rfl, hl⟩
   · rcases hH with hH' | hH'
     · exact pc_valid false L H sL sH w false false true 0 (fun h => by cases h) (fun _ w => p_ratB hb w) (fun _ w => p_ratO hH' w) (fun _ h => by cases h) false rfl
     · exact pc_valid false L H sL sH w false false false 0 (fun h => by cases h) (fun _ w => p_ratB hb w) (fun _ w => p_ratB hH' w) (fun _ h => by cases h) false rfl
   · exact pc_valid false L H sL sH w false true false 0 (fun h => by cases h) (fun _ w => p_ratO ho w) (fun _ w => p_ratB hb w) (fun _ _ h => by cases h) false rfl
   · obtain ⟨r, hr⟩ : ∃ r, cmpI (f.1 * g.2) (g.1 * f.2) = r := ⟨_, rfl⟩
     exact pc_valid false (frC f) (frC g) rfl rfl w false true true r (fun h => by cases h) (fun _ w => g_valid hf w) (fun _ w => g_valid hg w) (fun _ _ _ w => g_cmpC hf hg hr w) false (by rw [cmpF_le hr, decide_eq_false hl]; rfl)
theorem p_valR : RVal 18 := fun _ h w => p_valB h w
theorem p_conR : RCon 19 := by
 refine ⟨fun X S hX hS w => ?_, fun c S hc hS w => ?_⟩
 · have kv := fun w => p_valB hX w
   obtain ⟨o, L, H, rfl, hL, hH, hb⟩ := hX
   exact pc_con1 o L H S hL.rc.size hH.rc.size hS.rc.size hL.rc.one hH.rc.one hS.rc.one w (hide kv)
 · have kv := fun w => p_val c hc w
   obtain ⟨o, L, H, e, hL, hH⟩ := cnC_form c
   rw [e] at kv ⊢
   exact pc_con2 o L H S hL.size hH.size hS.raw.rc.size hL.one hH.one hS.raw.rc.one w (hide kv) (hide (fun w => p_ratB hS w))
theorem p_choR : RCho 16 := fun X hX w => by
 have kv := fun w => p_valB hX w
 obtain ⟨o, L, H, rfl, hL, hH, hb⟩ := hX
 exact pc_choose o L H zR zR hL.rc.size hH.rc.size rfl zR_one rfl zR_one w false false kv (fun h => by cases h) (fun h => by cases h)
theorem raw_valP {X : Array Value} (h : RawC X) : ∃ v, (v = true → OkC X) ∧ (BadC X → v = false) ∧ ∀ w, Calls Tryz.prog 18 #[.agg X] w (Ret (.bool v) w) := by
 by_cases hb : BadC X
 · exact ⟨false, fun h => (by cases h), fun _ => rfl, fun w => p_valB hb w⟩
 · rcases h with ⟨c, hc, rfl⟩ | h
   · exact ⟨true, fun _ => ⟨c, hc, rfl⟩, fun h => absurd h hb, fun w => p_val c hc w⟩
   · exact absurd h hb
theorem p_meeR : RMee 15 := fun X Y hX hY hb w => by
 obtain ⟨va, _, a2, a3⟩ := raw_valP hX
 obtain ⟨vb, _, b2, b3⟩ := raw_valP hY
 obtain ⟨oa, La, Ha, rfl, hLa, hHa⟩ := raw_form hX
 obtain ⟨ob, Lb, Hb, rfl, hLb, hHb⟩ := raw_form hY
 have hv : (va && vb) = false := by
   rcases hb with h | h
   · rw [a2 h]; rfl
   · rw [b2 h, Bool.and_false]
 have hn : va = true → vb = true → False := fun p q => by rw [p, q] at hv; cases hv
 have := pc_meet oa ob La Ha Lb Hb hLa.size hHa.size hLb.size hHb.size hLa.one hHa.one hLb.one hHb.one w va vb 0 0 0 a3 (fun _ => b3) (fun p q => (hn p q).elim) (fun p q => (hn p q).elim) (fun p q => (hn p q).elim)
 unfold metP at this
 rw [hv] at this
 exact this
theorem p_all : PAll 18 19 16 15 := ⟨p_val, p_con, p_cho, p_mee, p_valR, p_conR, p_choR, p_meeR⟩
end
section
open Go Go.RowKit
theorem or_one {v : Int} (h : U64 v) : ∃ m : Nat, bits .or .u64 v 1 = (m : Int) ∧ 1 ≤ m ∧ m < 18446744073709551616 := by
 refine ⟨(BitVec.ofInt 64 v ||| BitVec.ofInt 64 1).toNat, ?_, ?_, (BitVec.ofInt 64 v ||| BitVec.ofInt 64 1).isLt⟩
 · show IntKind.u64.wrap ((BitVec.ofInt 64 v ||| BitVec.ofInt 64 1).toNat : Int) = _
   have := (BitVec.ofInt 64 v ||| BitVec.ofInt 64 1).isLt
   rw [wrap_u64']
   omega
 · have h1 : (BitVec.ofInt 64 v ||| BitVec.ofInt 64 1).getLsbD 0 = true := by
     rw [BitVec.getLsbD_or]
     have : (BitVec.ofInt 64 1).getLsbD 0 = true := by decide
     rw [this, Bool.or_true]
   rcases Nat.eq_zero_or_pos (BitVec.ofInt 64 v ||| BitVec.ofInt 64 1).toNat with h0 | h0
   · rw [BitVec.getLsbD, h0] at h1; simp at h1
   · exact h0
theorem Box10.upd {w w' : World} {k b : Nat} {s : Bool} {a b' c d : Nat} {t : Bool} {e f g h : Nat} (x : Box10 w k s a b' c d t e f g h) (u : Upd b w w') (hn : k ≠ b) : Box10 w' k s a b' c d t e f g h := by
 have := x.lt; unfold Box10; rw [u.2.2.2.2 k this hn]; exact x
theorem TapeOk.five {B b g : Nat} {w : World} (h : TapeOk B w b) (hg : b < g) (u0 u1 u2 u3 u4 : Value) : TapeOk B (((((w.setCell ⟨g, 0, none⟩ u0).setCell ⟨g, 1, none⟩ u1).setCell ⟨g, 2, none⟩ u2).setCell ⟨g, 3, none⟩ u3).setCell ⟨g, 4, none⟩ u4) b := ((((h.store hg u0).store hg u1).store hg u2).store hg u3).store hg u4
theorem Upd.five {b g : Nat} {W w : World} (h : Upd b W w) (hg : W.heap.size ≤ g) (u0 u1 u2 u3 u4 : Value) : Upd b W (((((w.setCell ⟨g, 0, none⟩ u0).setCell ⟨g, 1, none⟩ u1).setCell ⟨g, 2, none⟩ u2).setCell ⟨g, 3, none⟩ u3).setCell ⟨g, 4, none⟩ u4) := ((((h.store hg u0).store hg u1).store hg u2).store hg u3).store hg u4
theorem t_bool8 (B b : Nat) (W w : World) (hT : TapeOk B w b) (hW : Upd b W w) :
   Calls Tryz.prog 11 #[.pointer (some ⟨b, 0, none⟩), .int .i64 8] w (BoolPost B b W) := by
 have hm : (1 : Int).tmod 8 = 1 := by decide
 have hT' := hT.below (below_drewN' (b + 1) w 1)
 go_enter Tryz.func11, Tryz.ntmps11
 go_wp2_with fail
 go_region_with (go_at_call 24; refine (t_next' B b 8 W _ ⟨by omega, by omega⟩ (by first | exact hT | exact (hT.below (below_drewN' (b + 1) w 1))) (by first | exact hW | exact hW.drew)).mono ?_; rintro e w' ⟨u, rfl, hu, hT2, hB2⟩)
 all_goals go_wp2_with fail
 all_goals go_ret
 all_goals exact ⟨_, rfl, hT2, hB2⟩
theorem TapeOk.ten {B b g : Nat} {w : World} (h : TapeOk B w b) (hg : b < g) (u0 u1 u2 u3 u4 u5 u6 u7 u8 u9 : Value) : TapeOk B ((((((((((w.setCell ⟨g, 0, none⟩ u0).setCell ⟨g, 1, none⟩ u1).setCell ⟨g, 2, none⟩ u2).setCell ⟨g, 3, none⟩ u3).setCell ⟨g, 4, none⟩ u4).setCell ⟨g, 5, none⟩ u5).setCell ⟨g, 6, none⟩ u6).setCell ⟨g, 7, none⟩ u7).setCell ⟨g, 8, none⟩ u8).setCell ⟨g, 9, none⟩ u9) b := (((((h.five hg u0 u1 u2 u3 u4).store hg u5).store hg u6).store hg u7).store hg u8).store hg u9
theorem Upd.ten {b g : Nat} {W w : World} (h : Upd b W w) (hg : W.heap.size ≤ g) (u0 u1 u2 u3 u4 u5 u6 u7 u8 u9 : Value) : Upd b W ((((((((((w.setCell ⟨g, 0, none⟩ u0).setCell ⟨g, 1, none⟩ u1).setCell ⟨g, 2, none⟩ u2).setCell ⟨g, 3, none⟩ u3).setCell ⟨g, 4, none⟩ u4).setCell ⟨g, 5, none⟩ u5).setCell ⟨g, 6, none⟩ u6).setCell ⟨g, 7, none⟩ u7).setCell ⟨g, 8, none⟩ u8).setCell ⟨g, 9, none⟩ u9) := (((((h.five hg u0 u1 u2 u3 u4).store hg u5).store hg u6).store hg u7).store hg u8).store hg u9
def TapeRat (B b : Nat) (W : World) (e : Ending) (w' : World) : Prop := ∃ n d : Int, e = .returned (.agg #[.bool (sg n), .int .u64 (l0 n : Int), .int .u64 (l1 n : Int), .int .u64 (l2 n : Int), .int .u64 (l3 n : Int), .bool (sg d), .int .u64 (l0 d : Int), .int .u64 (l1 d : Int), .int .u64 (l2 d : Int), .int .u64 (l3 d : Int)]) ∧ Frac n d ∧ TapeOk B w' b ∧ Upd b W w'
def RatPair2 (B b : Nat) (W : World) (g g1 : Nat) (wx : World) : Prop := ∃ n d : Int, F256 n ∧ 1 ≤ d ∧ d < 18446744073709551616 ∧ Box wx g1 (sg n) (l0 n) (l1 n) (l2 n) (l3 n) ∧ Box wx (g1 + 1) (sg d) (l0 d) (l1 d) (l2 d) (l3 d) ∧ Box10 wx g false 0 0 0 0 false 0 0 0 0 ∧ TapeOk B wx b ∧ Upd b W wx
def RatPair (B b : Nat) (W : World) (g g1 : Nat) (wx : World) : Prop := ∃ n d : Int, n.natAbs < 85070591730234615865843651857942052864 ∧ 1 ≤ d ∧ d < 18446744073709551616 ∧ Box wx g1 (sg n) (l0 n) (l1 n) (l2 n) (l3 n) ∧ Box wx (g1 + 1) (sg d) (l0 d) (l1 d) (l2 d) (l3 d) ∧ Box10 wx g false 0 0 0 0 false 0 0 0 0 ∧ TapeOk B wx b ∧ Upd b W wx
set_option maxRecDepth 100000 in
set_option maxHeartbeats 8000000 in
theorem t_ratio (B b : Nat) (W w : World) (hT : TapeOk B w b) (hW : Upd b W w) : Calls Tryz.prog 10 #[.pointer (some ⟨b, 0, none⟩)] w (TapeRat B b W) := by
 have hbw := hT.2.1
 have hWw := hW.2.2.2.1
 have P0 : Box10 (w.alloc (.cells #[.bool false, .int .u64 0, .int .u64 0, .int .u64 0, .int .u64 0, .bool false, .int .u64 0, .int .u64 0, .int .u64 0, .int .u64 0] 27)) w.heap.size false 0 0 0 0 false 0 0 0 0 := heap_alloc_new w _
 have E0 := ext_alloc w (.cells #[.bool false, .int .u64 0, .int .u64 0, .int .u64 0, .int .u64 0, .bool false, .int .u64 0, .int .u64 0, .int .u64 0, .int .u64 0] 27)
 obtain ⟨W0, hW0⟩ : ∃ W0, W0 = w.alloc (.cells #[.bool false, .int .u64 0, .int .u64 0, .int .u64 0, .int .u64 0, .bool false, .int .u64 0, .int .u64 0, .int .u64 0, .int .u64 0] 27) := ⟨_, rfl⟩
 rw [← hW0] at P0 E0
 have T0 := hT.ext E0
 have UU := hide (hW.more E0)
 obtain ⟨g, hg⟩ : ∃ g, w.heap.size = g := ⟨_, rfl⟩
 rw [hg] at P0 hbw hWw
 have HG := hide hg
 have HW0 := hide hW0
 clear hg hW0 hT hW E0
 have neP0 : g ≠ b := by omega
 have i200 : I64 200 := ⟨by omega, by omega⟩
 have i60 : I64 60 := ⟨by omega, by omega⟩
 go_enter Tryz.func10, Tryz.ntmps10
 go_upto_region 1 with fail
 rw [← HW0.out, HG.out]
 clear HW0 HG
 go_upto_region 2 with (first
   | (go_at_call 24; (with_reducible refine (t_next B b 200 _ i200 T0).mono ?_); rintro e' w1 ⟨u, rfl, huu, T1, hU⟩; have P0 := P0.upd hU neP0; have UU := hide (UU.out.trans hU); obtain ⟨xP00, xP01, xP02, xP03, xP04, xP05, xP06, xP07, xP08, xP09, xP0f0, xP0f1, xP0f2, xP0f3, xP0f4, xP0f5, xP0f6, xP0f7, xP0f8, xP0f9⟩ := ten_cells P0; have u0 := huu.1; have u1 := huu.2.1 (by omega); clear T0 hU huu; obtain ⟨n, hn⟩ : ∃ n, u - 100 = n := ⟨_, rfl⟩; have kn : Hid (∀ w, Calls Tryz.prog 14 #[.int .i64 (u - 100)] w (Ret (.agg #[.bool (sg n), .int .u64 (l0 n : Int), .int .u64 (l1 n : Int), .int .u64 (l2 n : Int), .int .u64 (l3 n : Int)]) w)) := (fun w => by rw [hn]; exact d_ofi (by omega) (by omega) w); have bn : n.natAbs < 85070591730234615865843651857942052864 := (by omega); clear hn)
   | (go_at_call 14; (with_reducible refine (kn.out _).mono ?_); rintro e' w2 ⟨rfl, hE⟩; have P0 := P0.ext hE; have UU := hide (UU.out.more hE); obtain ⟨xP00, xP01, xP02, xP03, xP04, xP05, xP06, xP07, xP08, xP09, xP0f0, xP0f1, xP0f2, xP0f3, xP0f4, xP0f5, xP0f6, xP0f7, xP0f8, xP0f9⟩ := ten_cells P0; have T2 := T1.ext hE; clear T1 hE kn)
   | (go_at_call 24; (with_reducible refine (t_next B b 60 _ i60 T2).mono ?_); rintro e' w3 ⟨v, rfl, huv, T3, hU⟩; have P0 := P0.upd hU neP0; have UU := hide (UU.out.trans hU); obtain ⟨xP00, xP01, xP02, xP03, xP04, xP05, xP06, xP07, xP08, xP09, xP0f0, xP0f1, xP0f2, xP0f3, xP0f4, xP0f5, xP0f6, xP0f7, xP0f8, xP0f9⟩ := ten_cells P0; have v0 := huv.1; have v1 := huv.2.1 (by omega); clear T2 hU huv; obtain ⟨d, hd⟩ : ∃ d, 1 + v = d := ⟨_, rfl⟩; have kd : Hid (∀ w, Calls Tryz.prog 14 #[.int .i64 (1 + v)] w (Ret (.agg #[.bool (sg d), .int .u64 (l0 d : Int), .int .u64 (l1 d : Int), .int .u64 (l2 d : Int), .int .u64 (l3 d : Int)]) w)) := (fun w => by rw [hd]; exact d_ofi (by omega) (by omega) w); have bd1 : 1 ≤ d := (by omega); have bd2 : d < 18446744073709551616 := (by omega); clear hd)
   | (go_at_call 14; (with_reducible refine (kd.out _).mono ?_); rintro e' w4 ⟨rfl, hE⟩; have P0 := P0.ext hE; have UU := hide (UU.out.more hE); obtain ⟨xP00, xP01, xP02, xP03, xP04, xP05, xP06, xP07, xP08, xP09, xP0f0, xP0f1, xP0f2, xP0f3, xP0f4, xP0f5, xP0f6, xP0f7, xP0f8, xP0f9⟩ := ten_cells P0; have T4 := T3.ext hE; clear T3 hE kd))
 have H2 := two_blocks w4 (.cells #[.bool (sg n), .int .u64 (l0 n : Int), .int .u64 (l1 n : Int), .int .u64 (l2 n : Int), .int .u64 (l3 n : Int)] 25) (.cells #[.bool (sg d), .int .u64 (l0 d : Int), .int .u64 (l1 d : Int), .int .u64 (l2 d : Int), .int .u64 (l3 d : Int)] 25)
 have hE := (ext_alloc w4 (.cells #[.bool (sg n), .int .u64 (l0 n : Int), .int .u64 (l1 n : Int), .int .u64 (l2 n : Int), .int .u64 (l3 n : Int)] 25)).trans (ext_alloc _ (.cells #[.bool (sg d), .int .u64 (l0 d : Int), .int .u64 (l1 d : Int), .int .u64 (l2 d : Int), .int .u64 (l3 d : Int)] 25))
 have hbw4 := T4.2.1
 have lP0 := P0.lt
 have P0 := P0.ext hE
 have UU := hide (UU.out.more hE)
 have T5 := T4.ext hE
 clear hE T4
 obtain ⟨W4, hW⟩ : ∃ W, W = (w4.alloc (.cells #[.bool (sg n), .int .u64 (l0 n : Int), .int .u64 (l1 n : Int), .int .u64 (l2 n : Int), .int .u64 (l3 n : Int)] 25)).alloc (.cells #[.bool (sg d), .int .u64 (l0 d : Int), .int .u64 (l1 d : Int), .int .u64 (l2 d : Int), .int .u64 (l3 d : Int)] 25) := ⟨_, rfl⟩
 rw [← hW] at H2 UU P0 T5 ⊢
 obtain ⟨g1, hg⟩ : ∃ g, w4.heap.size = g := ⟨_, rfl⟩
 rw [hg] at H2 hbw4 lP0 ⊢
 obtain ⟨P1, P2⟩ : Box W4 g1 (sg n) (l0 n) (l1 n) (l2 n) (l3 n) ∧ Box W4 (g1 + 1) (sg d) (l0 d) (l1 d) (l2 d) (l3 d) := H2
 clear hW hg
 have neP1 : g1 ≠ b := by omega
 have neP2 : g1 + 1 ≠ b := by omega
 have ne01 : g ≠ g1 := by omega
 have ne02 : g ≠ g1 + 1 := by omega
 have hWg1 : W.heap.size ≤ g1 := by omega
 have hbg1 : b < g1 := by omega
 go_upto_if 16 with (go_at_call 11; (with_reducible refine (t_bool B b 4 _ _ (by omega) (by omega) T5 (Upd.refl _ _)).mono ?_); rintro e' w5 ⟨bv, rfl, T6, hU⟩; have P0 := P0.upd hU neP0; have P1 := P1.upd hU neP1; have P2 := P2.upd hU neP2; have UU := hide (UU.out.trans hU); clear T5 hU)
 go_cut [] (fun wx => RatPair B b W g g1 wx)
 case first =>
   cases bv
   · go_wp2_with fail
     all_goals go_meet
     all_goals exact ⟨n, d, bn, bd1, bd2, P1, P2, P0, T6, UU.out⟩
   · go_wp2_with (first
       | (go_at_call 25; (with_reducible refine (t_int B b _ _ T6 (Upd.refl _ _)).mono ?_); rintro e' w6 ⟨n', rfl, hi, T7, hU⟩; have P0 := P0.upd hU neP0; have P1 := P1.upd hU neP1; have P2 := P2.upd hU neP2; have UU := hide (UU.out.trans hU); obtain ⟨xP00, xP01, xP02, xP03, xP04, xP05, xP06, xP07, xP08, xP09, xP0f0, xP0f1, xP0f2, xP0f3, xP0f4, xP0f5, xP0f6, xP0f7, xP0f8, xP0f9⟩ := ten_cells P0; obtain ⟨xP10, xP11, xP12, xP13, xP14, xP1f0, xP1f1, xP1f2, xP1f3, xP1f4⟩ := five_cells P1; obtain ⟨xP20, xP21, xP22, xP23, xP24, xP2f0, xP2f1, xP2f2, xP2f3, xP2f4⟩ := five_cells P2; have n1 := hi.1; have n2 := hi.2; have bn' : n'.natAbs < 85070591730234615865843651857942052864 := (by omega); clear hi hU T6)
       | (go_at_call 14; (with_reducible refine (d_ofi n1 n2 _).mono ?_); rintro e' w7 ⟨rfl, hE⟩; have P0 := P0.ext hE; have P1 := P1.ext hE; have P2 := P2.ext hE; have UU := hide (UU.out.more hE); obtain ⟨xP00, xP01, xP02, xP03, xP04, xP05, xP06, xP07, xP08, xP09, xP0f0, xP0f1, xP0f2, xP0f3, xP0f4, xP0f5, xP0f6, xP0f7, xP0f8, xP0f9⟩ := ten_cells P0; obtain ⟨xP10, xP11, xP12, xP13, xP14, xP1f0, xP1f1, xP1f2, xP1f3, xP1f4⟩ := five_cells P1; obtain ⟨xP20, xP21, xP22, xP23, xP24, xP2f0, xP2f1, xP2f2, xP2f3, xP2f4⟩ := five_cells P2; have T8 := T7.ext hE; clear hE T7)
       | (go_at_call 27; (with_reducible refine (t_word' B b _ _ T8 (Upd.refl _ _)).mono ?_); rintro e' w8 ⟨v', rfl, hv', T9, hU⟩; have P0 := P0.upd hU neP0; have P1 := P1.upd hU neP1; have P2 := P2.upd hU neP2; have UU := hide (UU.out.trans hU); obtain ⟨xP00, xP01, xP02, xP03, xP04, xP05, xP06, xP07, xP08, xP09, xP0f0, xP0f1, xP0f2, xP0f3, xP0f4, xP0f5, xP0f6, xP0f7, xP0f8, xP0f9⟩ := ten_cells P0; obtain ⟨xP10, xP11, xP12, xP13, xP14, xP1f0, xP1f1, xP1f2, xP1f3, xP1f4⟩ := five_cells P1; obtain ⟨xP20, xP21, xP22, xP23, xP24, xP2f0, xP2f1, xP2f2, xP2f3, xP2f4⟩ := five_cells P2; obtain ⟨m, hm, m1, m2⟩ := or_one hv'; clear hU T8 hv')
       | (go_at_call 26; (with_reducible refine (d_ofu m2 _).mono ?_); rintro e' w9 ⟨rfl, hE⟩; have P0 := P0.ext hE; have P1 := P1.ext hE; have P2 := P2.ext hE; have UU := hide (UU.out.more hE); obtain ⟨xP00, xP01, xP02, xP03, xP04, xP05, xP06, xP07, xP08, xP09, xP0f0, xP0f1, xP0f2, xP0f3, xP0f4, xP0f5, xP0f6, xP0f7, xP0f8, xP0f9⟩ := ten_cells P0; obtain ⟨xP10, xP11, xP12, xP13, xP14, xP1f0, xP1f1, xP1f2, xP1f3, xP1f4⟩ := five_cells P1; obtain ⟨xP20, xP21, xP22, xP23, xP24, xP2f0, xP2f1, xP2f2, xP2f3, xP2f4⟩ := five_cells P2; have TA := T9.ext hE; clear hE T9 hm))
     all_goals go_meet
     all_goals exact ⟨n', (m : Int), bn', by omega, by omega, (P1.put).far (by omega) _ _ _ _ _, (P2.far (by omega) _ _ _ _ _).put, (P0.far (by omega) _ _ _ _ _).far (by omega) _ _ _ _ _, (TA.five hbg1 _ _ _ _ _).five (by omega) _ _ _ _ _, (UU.out.five hWg1 _ _ _ _ _).five (by omega) _ _ _ _ _⟩
 case rest =>
   clear P0 P1 P2 UU T6 bn bd1 bd2
   obtain ⟨n, d, bn, bd1, bd2, P1, P2, P0, T6, UU'⟩ := hcut
   have UU := hide UU'
   clear UU'
   go_upto_if 25 with (go_at_call 11; (with_reducible refine (t_bool8 B b _ _ T6 (Upd.refl _ _)).mono ?_); rintro e' w5 ⟨bv, rfl, T7, hU⟩; have P0 := P0.upd hU neP0; have P1 := P1.upd hU neP1; have P2 := P2.upd hU neP2; have UU := hide (UU.out.trans hU); clear T6 hU)
   go_cut [] (fun wx => RatPair2 B b W g g1 wx)
   case first =>
     cases bv
     · go_wp2_with fail
       all_goals go_meet
       all_goals exact ⟨n, d, by unfold F256; omega, bd1, bd2, P1, P2, P0, T7, UU.out⟩
     · obtain ⟨n', hn'⟩ : ∃ z, n * 4611686018427387904 = z := ⟨_, rfl⟩
       have fn' : F256 n' := by unfold F256; omega
       have k1 : Hid (∀ w, Calls Tryz.prog 14 #[.int .i64 4611686018427387904] w (Ret (.agg #[.bool (sg 4611686018427387904), .int .u64 (l0 4611686018427387904 : Int), .int .u64 (l1 4611686018427387904 : Int), .int .u64 (l2 4611686018427387904 : Int), .int .u64 (l3 4611686018427387904 : Int)]) w)) := fun w => d_ofi (by omega) (by omega) w
       have k2 : Hid (∀ w, Calls Tryz.prog 28 #[.agg #[.bool (sg n), .int .u64 (l0 n : Int), .int .u64 (l1 n : Int), .int .u64 (l2 n : Int), .int .u64 (l3 n : Int)], .agg #[.bool (sg 4611686018427387904), .int .u64 (l0 4611686018427387904 : Int), .int .u64 (l1 4611686018427387904 : Int), .int .u64 (l2 4611686018427387904 : Int), .int .u64 (l3 4611686018427387904 : Int)]] w (Ret (.tuple #[.agg #[.bool (sg n'), .int .u64 (l0 n' : Int), .int .u64 (l1 n' : Int), .int .u64 (l2 n' : Int), .int .u64 (l3 n' : Int)], .bool true]) w)) := fun w => d_mul (by unfold F256; omega) (by unfold F256; omega) hn' fn' w
       clear hn'
       go_upto_region 5 with fail
       have lP1 := P1.lt
       obtain ⟨xP10, xP11, xP12, xP13, xP14, xP1f0, xP1f1, xP1f2, xP1f3, xP1f4⟩ := five_cells P1
       go_region_with (first
         | (go_at_call 14; (with_reducible refine (k1.out _).mono ?_); rintro e' w6 ⟨rfl, hE⟩; have hE := (ext_drew _).trans hE; have P0 := P0.ext hE; have P1 := P1.ext hE; have P2 := P2.ext hE; have UU := hide (UU.out.more hE); obtain ⟨xP10, xP11, xP12, xP13, xP14, xP1f0, xP1f1, xP1f2, xP1f3, xP1f4⟩ := five_cells P1; have T8 := T7.ext hE; clear hE T7)
         | (go_at_call 28; (with_reducible refine (k2.out _).mono ?_); rintro e' w7 ⟨rfl, hE⟩; have P0 := P0.ext hE; have P1 := P1.ext hE; have P2 := P2.ext hE; have UU := hide (UU.out.more hE); obtain ⟨xP10, xP11, xP12, xP13, xP14, xP1f0, xP1f1, xP1f2, xP1f3, xP1f4⟩ := five_cells P1; have T9 := T8.ext hE; clear hE T8))
       all_goals go_wp2_with fail
       all_goals go_meet
       all_goals exact ⟨n', d, fn', bd1, bd2, P1.put, P2.far (by omega) _ _ _ _ _, P0.far (by omega) _ _ _ _ _, T9.five hbg1 _ _ _ _ _, UU.out.five hWg1 _ _ _ _ _⟩
   case rest =>
     clear P0 P1 P2 UU T7 bn bd1 bd2
     obtain ⟨n, d, fn, bd1, bd2, P1, P2, P0, T7, UU'⟩ := hcut
     have UU := hide UU'
     clear UU'
     obtain ⟨o, ho⟩ : ∃ o, mkB n d = o := ⟨_, rfl⟩
     obtain ⟨N, hN⟩ : ∃ N, (if o then numR n d else 0) = N := ⟨_, rfl⟩
     obtain ⟨D, hD⟩ : ∃ D, (if o then denR n d else 0) = D := ⟨_, rfl⟩
     have hF : Hid (o = true → Frac N D) := by
       rintro rfl
       rw [if_pos rfl] at hN hD
       rw [← hN, ← hD]
       exact mkB_frac (by omega) ho
     have kM : Hid (∀ w, Calls Tryz.prog 29 #[.agg #[.bool (sg n), .int .u64 (l0 n : Int), .int .u64 (l1 n : Int), .int .u64 (l2 n : Int), .int .u64 (l3 n : Int)], .agg #[.bool (sg d), .int .u64 (l0 d : Int), .int .u64 (l1 d : Int), .int .u64 (l2 d : Int), .int .u64 (l3 d : Int)]] w (Ret (.tuple #[.agg #[.bool (sg N), .int .u64 (l0 N : Int), .int .u64 (l1 N : Int), .int .u64 (l2 N : Int), .int .u64 (l3 N : Int), .bool (sg D), .int .u64 (l0 D : Int), .int .u64 (l1 D : Int), .int .u64 (l2 D : Int), .int .u64 (l3 D : Int)], .bool o]) w)) := fun w => h_make fn (by unfold F256; omega) (by omega) ho hN hD w
     have kO : Hid (∀ w, Calls Tryz.prog 17 #[.int .i64 1] w (Ret (.agg #[.bool (sg 1), .int .u64 (l0 1 : Int), .int .u64 (l1 1 : Int), .int .u64 (l2 1 : Int), .int .u64 (l3 1 : Int), .bool (sg 1), .int .u64 (l0 1 : Int), .int .u64 (l1 1 : Int), .int .u64 (l2 1 : Int), .int .u64 (l3 1 : Int)]) w)) := fun w => h_of (by omega) (by omega) w
     clear ho hN hD
     obtain ⟨xP10, xP11, xP12, xP13, xP14, xP1f0, xP1f1, xP1f2, xP1f3, xP1f4⟩ := five_cells P1; obtain ⟨xP20, xP21, xP22, xP23, xP24, xP2f0, xP2f1, xP2f2, xP2f3, xP2f4⟩ := five_cells P2
     go_upto_region 7 with (go_at_call 29; (with_reducible refine (kM.out _).mono ?_); rintro e' w11 ⟨rfl, hE⟩; have P0 := P0.ext hE; have P1 := P1.ext hE; have P2 := P2.ext hE; have UU := hide (UU.out.more hE); obtain ⟨xP00, xP01, xP02, xP03, xP04, xP05, xP06, xP07, xP08, xP09, xP0f0, xP0f1, xP0f2, xP0f3, xP0f4, xP0f5, xP0f6, xP0f7, xP0f8, xP0f9⟩ := ten_cells P0; have T8 := T7.ext hE; clear hE T7)
     have P5 : Box10 (w11.alloc (.cells #[.bool (sg N), .int .u64 (l0 N : Int), .int .u64 (l1 N : Int), .int .u64 (l2 N : Int), .int .u64 (l3 N : Int), .bool (sg D), .int .u64 (l0 D : Int), .int .u64 (l1 D : Int), .int .u64 (l2 D : Int), .int .u64 (l3 D : Int)] 27)) w11.heap.size (sg N) (l0 N) (l1 N) (l2 N) (l3 N) (sg D) (l0 D) (l1 D) (l2 D) (l3 D) := heap_alloc_new w11 _
     have hE := ext_alloc w11 (.cells #[.bool (sg N), .int .u64 (l0 N : Int), .int .u64 (l1 N : Int), .int .u64 (l2 N : Int), .int .u64 (l3 N : Int), .bool (sg D), .int .u64 (l0 D : Int), .int .u64 (l1 D : Int), .int .u64 (l2 D : Int), .int .u64 (l3 D : Int)] 27)
     have lP0 := P0.lt
     have P0 := P0.ext hE
     have UU := hide (UU.out.more hE)
     have T9 := T8.ext hE
     generalize w11.alloc (.cells #[.bool (sg N), .int .u64 (l0 N : Int), .int .u64 (l1 N : Int), .int .u64 (l2 N : Int), .int .u64 (l3 N : Int), .bool (sg D), .int .u64 (l0 D : Int), .int .u64 (l1 D : Int), .int .u64 (l2 D : Int), .int .u64 (l3 D : Int)] 27) = W11 at *
     generalize w11.heap.size = g5 at *
     clear hE T8
     obtain ⟨xP00, xP01, xP02, xP03, xP04, xP05, xP06, xP07, xP08, xP09, xP0f0, xP0f1, xP0f2, xP0f3, xP0f4, xP0f5, xP0f6, xP0f7, xP0f8, xP0f9⟩ := ten_cells P0; obtain ⟨xP50, xP51, xP52, xP53, xP54, xP55, xP56, xP57, xP58, xP59, xP5f0, xP5f1, xP5f2, xP5f3, xP5f4, xP5f5, xP5f6, xP5f7, xP5f8, xP5f9⟩ := ten_cells P5
     cases o
     · go_wp2_with (go_at_call 17; (with_reducible refine (kO.out _).mono ?_); rintro e' w12 ⟨rfl, hE⟩; have P0 := P0.ext hE; have UU := hide (UU.out.more hE); have TA := T9.ext hE; obtain ⟨xP00, xP01, xP02, xP03, xP04, xP05, xP06, xP07, xP08, xP09, xP0f0, xP0f1, xP0f2, xP0f3, xP0f4, xP0f5, xP0f6, xP0f7, xP0f8, xP0f9⟩ := ten_cells P0; clear hE T9)
       all_goals exact bodyPost_ret (v := .agg #[.bool (sg 1), .int .u64 (l0 1 : Int), .int .u64 (l1 1 : Int), .int .u64 (l2 1 : Int), .int .u64 (l3 1 : Int), .bool (sg 1), .int .u64 (l0 1 : Int), .int .u64 (l1 1 : Int), .int .u64 (l2 1 : Int), .int .u64 (l3 1 : Int)]) (by simp [results, Tryz.results10, go_sem, xP00, xP01, xP02, xP03, xP04, xP05, xP06, xP07, xP08, xP09]) rfl ⟨1, 1, rfl, by unfold Frac; decide, TA.ten hbw _ _ _ _ _ _ _ _ _ _, UU.out.ten hWw _ _ _ _ _ _ _ _ _ _⟩
     · have hF := hide (hF.out rfl)
       go_wp2_with fail
       all_goals exact bodyPost_ret (v := .agg #[.bool (sg N), .int .u64 (l0 N : Int), .int .u64 (l1 N : Int), .int .u64 (l2 N : Int), .int .u64 (l3 N : Int), .bool (sg D), .int .u64 (l0 D : Int), .int .u64 (l1 D : Int), .int .u64 (l2 D : Int), .int .u64 (l3 D : Int)]) (by simp [results, Tryz.results10, go_sem, xP00, xP01, xP02, xP03, xP04, xP05, xP06, xP07, xP08, xP09]) rfl ⟨N, D, rfl, hF.out trivial, T9.ten hbw _ _ _ _ _ _ _ _ _ _, UU.out.ten hWw _ _ _ _ _ _ _ _ _ _⟩
end
section
open Go Go.RowKit Go.Sort
attribute [local go_sem] qUpon eUpon putE slE
def IsFr (v : Value) : Prop := ∃ n d : Int, v = .agg (frC (n, d)) ∧ Frac n d
def IsBo (v : Value) : Prop := ∃ x : Bool, v = .bool x
theorem build_cone {L H : Array Value} (hL : RC L) (hH : RC H) {a : Act} {o : Oper} {w : World} {x y : Operand} (ho : o.op = .build 29 #[(1, x), (2, y)]) (hx : a.eval x = .agg L) (hy : a.eval y = .agg H) : qUpon Tryz.prog w (.agg (coneC false L H)) ((execOp a.eval o).run Tryz.prog w) := by
 obtain ⟨s, a1, b, c, d, t, e, f, g, h, rfl⟩ := hL
 obtain ⟨s', a', b', c', d', t', e', f', g', h', rfl⟩ := hH
 obtain ⟨ρ, hρ⟩ : ∃ ρ, a.eval = ρ := ⟨_, rfl⟩
 rw [hρ] at hx hy ⊢
 clear hρ
 unfold execOp
 rw [ho]
 simp only [coneC]
 go_simp
set_option maxHeartbeats 3200000 in
set_option maxRecDepth 100000 in
theorem t_some (B b : Nat) (W w : World) (hT : TapeOk B w b) (hU : Upd b W w) : Calls Tryz.prog 5 #[.pointer (some ⟨b, 0, none⟩)] w fun e w' => ∃ c : Cn, okC c ∧ e = .returned (.agg (cnC c)) ∧ TapeOk B w' b ∧ Upd b W w' := by
 have hbw := hT.2.1
 have hBw : B ≤ w.heap.size := by have := hT.1; omega
 have HT := hide hT
 have HU := hide hU
 clear hT hU
 have P2 := Blk.new w 29 z21
 have EE := hide (ext_alloc w (.cells z21 29))
 obtain ⟨W1, hW1⟩ : ∃ W1, (w.alloc (.cells z21 29)) = W1 := ⟨_, rfl⟩
 obtain ⟨g0, hg⟩ : ∃ g, w.heap.size = g := ⟨_, rfl⟩
 rw [hW1] at P2 EE
 rw [hg] at P2
 have P2_lo : w.heap.size ≤ g0 := by omega
 have HW := hide hW1
 have Hg := hide hg
 clear hW1 hg
 go_enter Tryz.func5, Tryz.ntmps5
 go_upto_region 1 with fail
 unfold z21 at HW
 rw [HW.out, Hg.out]
 clear HW Hg
 have P2_nb : g0 ≠ b := by omega
 have UU := hide (Ext.upd EE.out b)
 have T0 := HT.out.ext EE.out
 clear EE hbw
 have P2_lt := P2.lt
 refine wp_evs [.q, .ev 0] [0, 0] (fun R => [.pointer (some ⟨b, 0, none⟩), undef]) (fun _ => (.cells #[] 0 (0, 0))) (fun R _ => (.cells #[] 0 (0, 0))) (fun _ => 0) (TE B b w (XA [IsBo])) (fun k => k = b) (by kernel_rfl) (by kernel_rfl) (by kernel_rfl) rfl (fun _ => rfl) (fun k e => by subst e; exact T0.2.1) (by simp) (by simp) (by simp) (fun R R' => ⟨fun _ => rfl, fun _ => rfl, trivial⟩) (fun _ _ _ _ => rfl) te_below ⟨T0, UU.out, XA.zero⟩ ?ops2 ?end2
 case ops2 =>
   refine ⟨?_, ?_, trivial⟩
   · refine er_q ?vn1 ?hn1 ?kn1 ?gn1 ?_
     case hn1 => exact rfl
     case vn1 => exact (fun R => .pointer (some ⟨b, 0, none⟩))
     case kn1 => exact (fun R => rfl)
     case gn1 => exact gd_none rfl
     intro R s w' hT hs hw ha
     go_simp
   · refine er_ev (m := 0) ?hn2 ?gn2 ?_
     case hn2 => exact rfl
     case gn2 => exact gd_none rfl
     intro R w' hT hw
     go_simp
     refine (t_bool8 B b w' w' hT.1 (Upd.refl _ _)).mono ?_
     rintro e w2 ⟨v, rfl, hT2, hU2⟩
     exact ⟨_, rfl, te_ev hT hT2 hU2 (hT.2.2.step rfl ⟨v, rfl⟩)⟩
 case end2 =>
  intro s R G w3 hI
  have hS := hI.same
  have hTT := hI.holds
  have hz0 := UU.out.2.2.2.1
  have hs0 : 0 < s := (hI.stage 1 (show 1 < 2 by decide) 0 rfl).1 (List.mem_range.2 (show 1 < 2 by decide))
  obtain ⟨x0, e0⟩ := hTT.2.2.get 0 rfl hs0
  have P2 := P2.sameE hS P2_nb (by simp)
  have T0 := hTT.1
  have UU := hide hTT.2.1
  clear hS hz0 hTT hI
  generalize hF : putE _ _ _ _ _ _ _ = FF
  have hF2 : FF = { tmps := #[.pointer (some ⟨b, 0, none⟩), undef, .pointer (some ⟨g0, 0, none⟩), undef, undef, .pointer (some ⟨b, 0, none⟩), (R 0), undef, undef, undef, undef, undef, undef, undef, undef, undef, undef, undef, undef, undef, undef], defers := [] } := by subst hF; kernel_rfl
  clear hF
  subst hF2
  (try simp only [e0])
  clear e0
  rcases Bool.eq_false_or_eq_true x0 with rfl | rfl
  · skip
    have kS : Hid (∀ w, Calls Tryz.prog 8 #[] w (Ret (.agg stC) w)) := fun w => rc_start w
    go_upto_region 2 with fail
    have P2_lt := P2.lt
    refine wp_evs [.q, .so 0] [0, 0] (fun R => [.agg stC, undef]) (fun _ => (.cells #[] 0 (0, 0))) (fun R _ => (.cells stC 29 (0, 0))) (fun _ => g0) (TE B b w (XA [])) (fun k => k = b) (by kernel_rfl) (by kernel_rfl) (by kernel_rfl) rfl (fun _ => rfl) (fun k e => by subst e; exact T0.2.1) (by intro c hc; simp at hc; (try subst hc); (try simp only); (intro e; omega)) (by intro c hc; simp at hc; (try subst hc); (try simp only); omega) (by intro c c' h1 h2 _; simp at h1 h2; omega) (fun R R' => ⟨fun _ => rfl, fun _ => rfl, trivial⟩) (fun _ _ _ _ => rfl) te_below ⟨T0, UU.out, XA.zero⟩ ?ops5 ?end5
    case ops5 =>
      refine ⟨?_, ?_, trivial⟩
      · refine er_q ?vn4 ?hn4 ?kn4 ?gn4 ?_
        case hn4 => exact rfl
        case vn4 => exact (fun R => .agg stC)
        case kn4 => exact (fun R => rfl)
        case gn4 => exact gd_none rfl
        intro R s w' hT hs hw ha
        go_simp
        exact kS.out w'
      · refine er_so (c := 0) (Ty := ?Tn5) (p := ?pn5) (x := ?xn5) g0 ?fn5 ?un5 ?vn5 ?hn5 ?on5 ?kn5 ?ln5 ?gn5 ?dn5 ?en5 ?_
        case hn5 => exact rfl
        case on5 => exact rfl
        case fn5 => exact (fun R => (.cells stC 29 (0, 0)))
        case un5 => exact (fun R => .pointer (some ⟨g0, 0, none⟩))
        case vn5 => exact (fun R => .agg stC)
        case kn5 => exact (fun R => rfl)
        case ln5 => exact rfl
        case gn5 => exact gd_none rfl
        case dn5 =>
          intro R
          kernel_rfl
        case en5 =>
          intro R
          kernel_rfl
        intro R s ρ w hT hs hp hx hz
        refine ⟨store_rowN (g := g0) rfl hp hx (hz.trans P2) iCone (rfl) (rfl) (stC_one), fun w1 hF => te_filled hT hF P2_lo P2_nb (by have := P2_lo; have := hBw; omega)⟩
    case end5 =>
     intro s R G w6 hI
     have hS := hI.same
     have hTT := hI.holds
     have hz0 := UU.out.2.2.2.1
     have P2 : Blk w6 g0 29 stC := hI.olds' 1 (List.mem_range.2 (show 1 < 2 by decide)) 0 rfl
     have T0 := hTT.1
     have UU := hide hTT.2.1
     clear hS hz0 hTT hI
     generalize hF : putE _ _ _ _ _ _ _ = FF
     have hF2 : FF = { tmps := #[.pointer (some ⟨b, 0, none⟩), undef, .pointer (some ⟨g0, 0, none⟩), undef, undef, .pointer (some ⟨b, 0, none⟩), .bool true, .agg stC, undef, undef, undef, undef, undef, undef, undef, undef, undef, undef, undef, undef, undef], defers := [] } := by subst hF; kernel_rfl
     clear hF
     subst hF2
     go_wp2_with fail
     exact bodyPost_ret (results_cell_row (p := 2) (ty := 29) rfl _ _ _ 29 stC (0, 0) _ rfl P2 uCone rfl iCone) rfl ⟨Cn.op, trivial, rfl, T0, HU.out.trans UU.out⟩
  · skip
    go_upto_region 3 with fail
    have P2_lt := P2.lt
    refine wp_evs [.q, .ev 0, .q, .ev 1, .al, .al, .st 4, .st 5] [0, 0, 0, 1, 0, 0, 1, 2] (fun R => [.pointer (some ⟨b, 0, none⟩), undef, .pointer (some ⟨b, 0, none⟩), undef, undef, undef, undef, undef]) (fun i => match i with | 4 => (.cells zR 27 (0, 0)) | _ => (.cells zR 27 (0, 0))) (fun R i => match i with | 6 => (.cells (rowV (R 0)) 27 (0, 0)) | 7 => (.cells (rowV (R 1)) 27 (0, 0)) | _ => (.cells #[] 0 (0, 0))) (fun _ => 0) (TE B b w (XA [IsFr, IsFr])) (fun k => k = b) (by kernel_rfl) (by kernel_rfl) (by kernel_rfl) rfl (fun _ => rfl) (fun k e => by subst e; exact T0.2.1) (by simp) (by simp) (by simp) (fun R R' => ⟨fun _ => rfl, fun _ => rfl, fun _ => rfl, fun _ => rfl, fun _ => rfl, fun _ => rfl, fun _ => rfl, fun _ => rfl, trivial⟩) (by intro R R' i h; (try dsimp only); (repeat' split) <;> first | rfl | ((try rw [h 0 (by decide)]); (try rw [h 1 (by decide)]))) te_below ⟨T0, UU.out, XA.zero⟩ ?ops311 ?end311
    case ops311 =>
      refine ⟨?_, ?_, ?_, ?_, ?_, ?_, ?_, ?_, trivial⟩
      · refine er_q ?vn304 ?hn304 ?kn304 ?gn304 ?_
        case hn304 => exact rfl
        case vn304 => exact (fun R => .pointer (some ⟨b, 0, none⟩))
        case kn304 => exact (fun R => rfl)
        case gn304 => exact gd_none rfl
        intro R s w' hT hs hw ha
        go_simp
      · refine er_ev (m := 0) ?hn305 ?gn305 ?_
        case hn305 => exact rfl
        case gn305 => exact gd_none rfl
        intro R w' hT hw
        go_simp
        refine (t_ratio B b w' w' hT.1 (Upd.refl _ _)).mono ?_
        rintro e w2 ⟨n, d, rfl, hF, hT2, hU2⟩
        exact ⟨_, rfl, te_ev hT hT2 hU2 (hT.2.2.step rfl ⟨n, d, rfl, hF⟩)⟩
      · refine er_q ?vn306 ?hn306 ?kn306 ?gn306 ?_
        case hn306 => exact rfl
        case vn306 => exact (fun R => .pointer (some ⟨b, 0, none⟩))
        case kn306 => exact (fun R => rfl)
        case gn306 => exact gd_none rfl
        intro R s w' hT hs hw ha
        go_simp
      · refine er_ev (m := 1) ?hn307 ?gn307 ?_
        case hn307 => exact rfl
        case gn307 => exact gd_none rfl
        intro R w' hT hw
        go_simp
        refine (t_ratio B b w' w' hT.1 (Upd.refl _ _)).mono ?_
        rintro e w2 ⟨n, d, rfl, hF, hT2, hU2⟩
        exact ⟨_, rfl, te_ev hT hT2 hU2 (hT.2.2.step rfl ⟨n, d, rfl, hF⟩)⟩
      · refine er_al ?zn308 ?hn308 ?kn308 ?gn308 ?_
        case zn308 => exact (.cells zR 27 (0, 0))
        case hn308 => exact rfl
        case kn308 => exact rfl
        case gn308 => exact gd_none rfl
        intro ρ w'
        go_simp
        exact ⟨rfl, rfl⟩
      · refine er_al ?zn309 ?hn309 ?kn309 ?gn309 ?_
        case zn309 => exact (.cells zR 27 (0, 0))
        case hn309 => exact rfl
        case kn309 => exact rfl
        case gn309 => exact gd_none rfl
        intro ρ w'
        go_simp
        exact ⟨rfl, rfl⟩
      · refine er_st (j := 4) (Ty := ?Tn310) (p := ?pn310) (x := ?xn310) ?fn310 ?zn310 ?vn310 ?hn310 ?on310 ?kn310 ?ln310 ?gn310 ?en310 ?_
        case hn310 => exact rfl
        case on310 => exact rfl
        case fn310 => exact (fun R => (.cells (rowV (R 0)) 27 (0, 0)))
        case zn310 => exact (.cells zR 27 (0, 0))
        case vn310 => exact (fun R => (R 0))
        case kn310 => exact (fun R => rfl)
        case ln310 => exact rfl
        case gn310 => exact gd_none rfl
        case en310 =>
          intro R
          kernel_rfl
        intro R s ρ w g hT hs hp hx hg hz
        have hs' : 0 + 1 ≤ s := hs
        obtain ⟨n0, d0, e0, hF0⟩ := hT.2.2.get 0 rfl hs'
        rw [e0] at hx ⊢
        exact ⟨store_rowN rfl hp hx hz iRat rfl (rfl) (by kernel_rfl), fun w1 hF => te_filled hT hF (Nat.le_trans UU.out.2.2.2.1 hg) (by have := T0.2.1; omega) (by have := T0.1; have := T0.2.1; omega)⟩
      · refine er_st (j := 5) (Ty := ?Tn311) (p := ?pn311) (x := ?xn311) ?fn311 ?zn311 ?vn311 ?hn311 ?on311 ?kn311 ?ln311 ?gn311 ?en311 ?_
        case hn311 => exact rfl
        case on311 => exact rfl
        case fn311 => exact (fun R => (.cells (rowV (R 1)) 27 (0, 0)))
        case zn311 => exact (.cells zR 27 (0, 0))
        case vn311 => exact (fun R => (R 1))
        case kn311 => exact (fun R => rfl)
        case ln311 => exact rfl
        case gn311 => exact gd_none rfl
        case en311 =>
          intro R
          kernel_rfl
        intro R s ρ w g hT hs hp hx hg hz
        have hs' : 1 + 1 ≤ s := hs
        obtain ⟨n1, d1, e1, hF1⟩ := hT.2.2.get 1 rfl hs'
        rw [e1] at hx ⊢
        exact ⟨store_rowN rfl hp hx hz iRat rfl (rfl) (by kernel_rfl), fun w1 hF => te_filled hT hF (Nat.le_trans UU.out.2.2.2.1 hg) (by have := T0.2.1; omega) (by have := T0.1; have := T0.2.1; omega)⟩
    case end311 =>
     intro s R G w312 hI
     have hS := hI.same
     have hTT := hI.holds
     have hz0 := UU.out.2.2.2.1
     have hs0 : 0 < s := (hI.stage 1 (show 1 < 8 by decide) 0 rfl).1 (List.mem_range.2 (show 1 < 8 by decide))
     obtain ⟨n0, d0, e0, hF0⟩ := hTT.2.2.get 0 rfl hs0
     have hs1 : 1 < s := (hI.stage 3 (show 3 < 8 by decide) 1 rfl).1 (List.mem_range.2 (show 3 < 8 by decide))
     obtain ⟨n1, d1, e1, hF1⟩ := hTT.2.2.get 1 rfl hs1
     have P2 := P2.sameE hS P2_nb (by simp)
     have P3 : Blk w312 (G 4) 27 (rowV (R 0)) := (hI.fulls 6 (List.mem_range.2 (show 6 < 8 by decide)) 4 rfl).2.2
     have hmP3 := (hI.made 4 (List.mem_range.2 (show 4 < 8 by decide)) rfl).1
     have P3_lo : w.heap.size ≤ G 4 := Nat.le_trans hz0 hmP3
     rw [e0] at P3
     have P3 : Blk w312 (G 4) 27 (frC (n0, d0)) := P3
     have P3_nb : G 4 ≠ b := by have := T0.2.1; omega
     have P4 : Blk w312 (G 5) 27 (rowV (R 1)) := (hI.fulls 7 (List.mem_range.2 (show 7 < 8 by decide)) 5 rfl).2.2
     have hmP4 := (hI.made 5 (List.mem_range.2 (show 5 < 8 by decide)) rfl).1
     have P4_lo : w.heap.size ≤ G 5 := Nat.le_trans hz0 hmP4
     rw [e1] at P4
     have P4 : Blk w312 (G 5) 27 (frC (n1, d1)) := P4
     have P4_nb : G 5 ≠ b := by have := T0.2.1; omega
     have ng3_4 : G 4 ≠ G 5 := fun e => by have := hI.apart 4 (List.mem_range.2 (show 4 < 8 by decide)) 5 (List.mem_range.2 (show 5 < 8 by decide)) rfl rfl e; omega
     have ngP2_3 : g0 ≠ G 4 := by omega
     have ngP2_4 : g0 ≠ G 5 := by omega
     have T0 := hTT.1
     have UU := hide hTT.2.1
     clear hS hz0 hTT hI
     generalize hF : putE _ _ _ _ _ _ _ = FF
     have hF2 : FF = { tmps := #[.pointer (some ⟨b, 0, none⟩), undef, .pointer (some ⟨g0, 0, none⟩), .pointer (some ⟨G 4, 0, none⟩), .pointer (some ⟨G 5, 0, none⟩), .pointer (some ⟨b, 0, none⟩), .bool false, undef, .pointer (some ⟨b, 0, none⟩), (R 0), .pointer (some ⟨b, 0, none⟩), (R 1), undef, undef, undef, undef, undef, undef, undef, undef, undef], defers := [] } := by subst hF; kernel_rfl
     clear hF
     subst hF2
     (try simp only [e0, e1])
     generalize G 4 = g3 at *
     generalize G 5 = g4 at *
     clear e0 e1
     obtain ⟨r, hr⟩ : ∃ r, cmpI (n0 * d1) (n1 * d0) = r := ⟨_, rfl⟩
     have kC : Hid (∀ w, Calls Tryz.prog 12 #[.agg (frC (n0, d0)), .agg (frC (n1, d1))] w (Ret (.int .i64 r) w)) := fun w => h_cmp hF0 hF1 hr w
     have HF := hide (And.intro hF0 (And.intro hF1 hr))
     have r0 : RC (frC (n0, d0)) := frC_rc _
     have r1 : RC (frC (n1, d1)) := frC_rc _
     obtain ⟨A0, hA0⟩ : ∃ A0, frC (n0, d0) = A0 := ⟨_, rfl⟩
     obtain ⟨A1, hA1⟩ : ∃ A1, frC (n1, d1) = A1 := ⟨_, rfl⟩
     rw [hA0] at kC r0 P3
     rw [hA1] at kC r1 P4
     try rw [hA0, hA1]
     have HA := hide (And.intro hA0 hA1)
     clear hA0 hA1 hF0 hF1 hr
     go_upto_region 4 with fail
     by_cases hr : 0 < r
     · have dr : decide (0 < r) = true := decide_eq_true hr
       have P2_lt := P2.lt
       have P3_lt := P3.lt
       have P4_lt := P4.lt
       refine wp_evs [.q, .q, .q, .q] [0, 0, 0, 0] (fun R => [.agg A0, .agg A1, .int .i64 r, .bool true]) (fun _ => (.cells #[] 0 (0, 0))) (fun R _ => (.cells #[] 0 (0, 0))) (fun _ => 0) (TE B b w (XA [])) (fun k => k = b) (by kernel_rfl) (by kernel_rfl) (by kernel_rfl) rfl (fun _ => rfl) (fun k e => by subst e; exact T0.2.1) (by simp) (by simp) (by simp) (fun R R' => ⟨fun _ => rfl, fun _ => rfl, fun _ => rfl, fun _ => rfl, trivial⟩) (fun _ _ _ _ => rfl) te_below ⟨T0, UU.out, XA.zero⟩ ?ops316 ?end316
       case ops316 =>
         refine ⟨?_, ?_, ?_, ?_, trivial⟩
         · refine er_q ?vn313 ?hn313 ?kn313 ?gn313 ?_
           case hn313 => exact rfl
           case vn313 => exact (fun R => .agg A0)
           case kn313 => exact (fun R => rfl)
           case gn313 => exact gd_none rfl
           intro R s w' hT hs hw ha
           have L := ld_all (P3.sameE hw P3_nb (by simp)) uRat rfl iRat r0.size
           generalize hA : putE _ _ _ _ _ _ _ = AA
           refine q_load rfl ?_ L
           subst hA
           kernel_rfl
         · refine er_q ?vn314 ?hn314 ?kn314 ?gn314 ?_
           case hn314 => exact rfl
           case vn314 => exact (fun R => .agg A1)
           case kn314 => exact (fun R => rfl)
           case gn314 => exact gd_none rfl
           intro R s w' hT hs hw ha
           have L := ld_all (P4.sameE hw P4_nb (by simp)) uRat rfl iRat r1.size
           generalize hA : putE _ _ _ _ _ _ _ = AA
           refine q_load rfl ?_ L
           subst hA
           kernel_rfl
         · refine er_q ?vn315 ?hn315 ?kn315 ?gn315 ?_
           case hn315 => exact rfl
           case vn315 => exact (fun R => .int .i64 r)
           case kn315 => exact (fun R => rfl)
           case gn315 => exact gd_none rfl
           intro R s w' hT hs hw ha
           go_simp
           exact kC.out w'
         · refine er_q ?vn316 ?hn316 ?kn316 ?gn316 ?_
           case hn316 => exact rfl
           case vn316 => exact (fun R => .bool true)
           case kn316 => exact (fun R => rfl)
           case gn316 => exact gd_none rfl
           intro R s w' hT hs hw ha
           go_simp
       case end316 =>
        intro s R G w317 hI
        have hS := hI.same
        have hTT := hI.holds
        have hz0 := UU.out.2.2.2.1
        have P2 := P2.sameE hS P2_nb (by simp)
        have P3 := P3.sameE hS P3_nb (by simp)
        have P4 := P4.sameE hS P4_nb (by simp)
        have T0 := hTT.1
        have UU := hide hTT.2.1
        clear hS hz0 hTT hI
        generalize hF : putE _ _ _ _ _ _ _ = FF
        have hF2 : FF = { tmps := #[.pointer (some ⟨b, 0, none⟩), undef, .pointer (some ⟨g0, 0, none⟩), .pointer (some ⟨g3, 0, none⟩), .pointer (some ⟨g4, 0, none⟩), .pointer (some ⟨b, 0, none⟩), .bool false, undef, .pointer (some ⟨b, 0, none⟩), .agg A0, .pointer (some ⟨b, 0, none⟩), .agg A1, .agg A0, .agg A1, .int .i64 r, .bool true, undef, undef, undef, undef, undef], defers := [] } := by subst hF; kernel_rfl
        clear hF
        subst hF2
        go_upto_region 5 with fail
        have P2_lt := P2.lt
        have P3_lt := P3.lt
        have P4_lt := P4.lt
        refine wp_evs [.q, .q, .so 0, .so 1] [0, 0, 0, 0] (fun R => [.agg A1, .agg A0, undef, undef]) (fun _ => (.cells #[] 0 (0, 0))) (fun R i => match i with | 2 => (.cells A1 27 (0, 0)) | _ => (.cells A0 27 (0, 0))) (fun i => match i with | 0 => g3 | _ => g4) (TE B b w (XA [])) (fun k => k = b) (by kernel_rfl) (by kernel_rfl) (by kernel_rfl) rfl (fun _ => rfl) (fun k e => by subst e; exact T0.2.1) (by intro c hc; simp at hc; rcases hc with rfl | rfl <;> (try simp only) <;> (intro e; omega)) (by intro c hc; simp at hc; rcases hc with rfl | rfl <;> (try simp only) <;> omega) (by intro c c' h1 h2 h3; simp at h1 h2; rcases h1 with rfl | rfl <;> rcases h2 with rfl | rfl <;> simp only at h3 <;> first | rfl | omega) (fun R R' => ⟨fun _ => rfl, fun _ => rfl, fun _ => rfl, fun _ => rfl, trivial⟩) (fun _ _ _ _ => rfl) te_below ⟨T0, UU.out, XA.zero⟩ ?ops321 ?end321
        case ops321 =>
          refine ⟨?_, ?_, ?_, ?_, trivial⟩
          · refine er_q ?vn318 ?hn318 ?kn318 ?gn318 ?_
            case hn318 => exact rfl
            case vn318 => exact (fun R => .agg A1)
            case kn318 => exact (fun R => rfl)
            case gn318 => exact gd_none rfl
            intro R s w' hT hs hw ha
            have L := ld_all ((ha 3 1 rfl (by kernel_rfl)).trans P4) uRat rfl iRat r1.size
            generalize hA : putE _ _ _ _ _ _ _ = AA
            refine q_load rfl ?_ L
            subst hA
            kernel_rfl
          · refine er_q ?vn319 ?hn319 ?kn319 ?gn319 ?_
            case hn319 => exact rfl
            case vn319 => exact (fun R => .agg A0)
            case kn319 => exact (fun R => rfl)
            case gn319 => exact gd_none rfl
            intro R s w' hT hs hw ha
            have L := ld_all ((ha 2 0 rfl (by kernel_rfl)).trans P3) uRat rfl iRat r0.size
            generalize hA : putE _ _ _ _ _ _ _ = AA
            refine q_load rfl ?_ L
            subst hA
            kernel_rfl
          · refine er_so (c := 0) (Ty := ?Tn320) (p := ?pn320) (x := ?xn320) g3 ?fn320 ?un320 ?vn320 ?hn320 ?on320 ?kn320 ?ln320 ?gn320 ?dn320 ?en320 ?_
            case hn320 => exact rfl
            case on320 => exact rfl
            case fn320 => exact (fun R => (.cells A1 27 (0, 0)))
            case un320 => exact (fun R => .pointer (some ⟨g3, 0, none⟩))
            case vn320 => exact (fun R => .agg A1)
            case kn320 => exact (fun R => rfl)
            case ln320 => exact rfl
            case gn320 => exact gd_none rfl
            case dn320 =>
              intro R
              kernel_rfl
            case en320 =>
              intro R
              kernel_rfl
            intro R s ρ w hT hs hp hx hz
            refine ⟨store_rowN (g := g3) rfl hp hx (hz.trans P3) iRat (r0.size) (r1.size) (r1.one), fun w1 hF => te_filled hT hF P3_lo P3_nb (by have := P3_lo; have := hBw; omega)⟩
          · refine er_so (c := 1) (Ty := ?Tn321) (p := ?pn321) (x := ?xn321) g4 ?fn321 ?un321 ?vn321 ?hn321 ?on321 ?kn321 ?ln321 ?gn321 ?dn321 ?en321 ?_
            case hn321 => exact rfl
            case on321 => exact rfl
            case fn321 => exact (fun R => (.cells A0 27 (0, 0)))
            case un321 => exact (fun R => .pointer (some ⟨g4, 0, none⟩))
            case vn321 => exact (fun R => .agg A0)
            case kn321 => exact (fun R => rfl)
            case ln321 => exact rfl
            case gn321 => exact gd_none rfl
            case dn321 =>
              intro R
              kernel_rfl
            case en321 =>
              intro R
              kernel_rfl
            intro R s ρ w hT hs hp hx hz
            refine ⟨store_rowN (g := g4) rfl hp hx (hz.trans P4) iRat (r1.size) (r0.size) (r0.one), fun w1 hF => te_filled hT hF P4_lo P4_nb (by have := P4_lo; have := hBw; omega)⟩
        case end321 =>
         intro s R G w322 hI
         have hS := hI.same
         have hTT := hI.holds
         have hz0 := UU.out.2.2.2.1
         have P2 := P2.sameE hS P2_nb (by intro c hc; simp at hc; rcases hc with rfl | rfl <;> (try simp only) <;> omega)
         have P3 : Blk w322 g3 27 A1 := hI.olds' 2 (List.mem_range.2 (show 2 < 4 by decide)) 0 rfl
         have P4 : Blk w322 g4 27 A0 := hI.olds' 3 (List.mem_range.2 (show 3 < 4 by decide)) 1 rfl
         have T0 := hTT.1
         have UU := hide hTT.2.1
         clear hS hz0 hTT hI
         generalize hF : putE _ _ _ _ _ _ _ = FF
         have hF2 : FF = { tmps := #[.pointer (some ⟨b, 0, none⟩), undef, .pointer (some ⟨g0, 0, none⟩), .pointer (some ⟨g3, 0, none⟩), .pointer (some ⟨g4, 0, none⟩), .pointer (some ⟨b, 0, none⟩), .bool false, undef, .pointer (some ⟨b, 0, none⟩), .agg A0, .pointer (some ⟨b, 0, none⟩), .agg A1, .agg A0, .agg A1, .int .i64 r, .bool true, .agg A1, .agg A0, undef, undef, undef], defers := [] } := by subst hF; kernel_rfl
         clear hF
         subst hF2
         go_upto_region 6 with fail
         have P2_lt := P2.lt
         have P3_lt := P3.lt
         have P4_lt := P4.lt
         refine wp_evs [.q, .q, .q, .so 0] [0, 0, 0, 0] (fun R => [.agg A1, .agg A0, .agg (coneC false A1 A0), undef]) (fun _ => (.cells #[] 0 (0, 0))) (fun R _ => (.cells (coneC false A1 A0) 29 (0, 0))) (fun _ => g0) (TE B b w (XA [])) (fun k => k = b) (by kernel_rfl) (by kernel_rfl) (by kernel_rfl) rfl (fun _ => rfl) (fun k e => by subst e; exact T0.2.1) (by intro c hc; simp at hc; (try subst hc); (try simp only); (intro e; omega)) (by intro c hc; simp at hc; (try subst hc); (try simp only); omega) (by intro c c' h1 h2 _; simp at h1 h2; omega) (fun R R' => ⟨fun _ => rfl, fun _ => rfl, fun _ => rfl, fun _ => rfl, trivial⟩) (fun _ _ _ _ => rfl) te_below ⟨T0, UU.out, XA.zero⟩ ?ops326 ?end326
         case ops326 =>
           refine ⟨?_, ?_, ?_, ?_, trivial⟩
           · refine er_q ?vn323 ?hn323 ?kn323 ?gn323 ?_
             case hn323 => exact rfl
             case vn323 => exact (fun R => .agg A1)
             case kn323 => exact (fun R => rfl)
             case gn323 => exact gd_none rfl
             intro R s w' hT hs hw ha
             have L := ld_all (P3.sameE hw P3_nb (by intro c hc; simp at hc; (try subst hc); (try simp only); omega)) uRat rfl iRat r1.size
             generalize hA : putE _ _ _ _ _ _ _ = AA
             refine q_load rfl ?_ L
             subst hA
             kernel_rfl
           · refine er_q ?vn324 ?hn324 ?kn324 ?gn324 ?_
             case hn324 => exact rfl
             case vn324 => exact (fun R => .agg A0)
             case kn324 => exact (fun R => rfl)
             case gn324 => exact gd_none rfl
             intro R s w' hT hs hw ha
             have L := ld_all (P4.sameE hw P4_nb (by intro c hc; simp at hc; (try subst hc); (try simp only); omega)) uRat rfl iRat r0.size
             generalize hA : putE _ _ _ _ _ _ _ = AA
             refine q_load rfl ?_ L
             subst hA
             kernel_rfl
           · refine er_q ?vn325 ?hn325 ?kn325 ?gn325 ?_
             case hn325 => exact rfl
             case vn325 => exact (fun R => .agg (coneC false A1 A0))
             case kn325 => exact (fun R => rfl)
             case gn325 => exact gd_none rfl
             intro R s w' hT hs hw ha
             generalize hA : putE _ _ _ _ _ _ _ = AA
             refine build_cone r1 r0 rfl ?_ ?_
             · subst hA; kernel_rfl
             · subst hA; kernel_rfl
           · refine er_so (c := 0) (Ty := ?Tn326) (p := ?pn326) (x := ?xn326) g0 ?fn326 ?un326 ?vn326 ?hn326 ?on326 ?kn326 ?ln326 ?gn326 ?dn326 ?en326 ?_
             case hn326 => exact rfl
             case on326 => exact rfl
             case fn326 => exact (fun R => (.cells (coneC false A1 A0) 29 (0, 0)))
             case un326 => exact (fun R => .pointer (some ⟨g0, 0, none⟩))
             case vn326 => exact (fun R => .agg (coneC false A1 A0))
             case kn326 => exact (fun R => rfl)
             case ln326 => exact rfl
             case gn326 => exact gd_none rfl
             case dn326 =>
               intro R
               kernel_rfl
             case en326 =>
               intro R
               kernel_rfl
             intro R s ρ w hT hs hp hx hz
             refine ⟨store_rowN (g := g0) rfl hp hx (hz.trans P2) iCone (rfl) (coneC_size false r1.size r0.size) (cone_one false r1.one r0.one), fun w1 hF => te_filled hT hF P2_lo P2_nb (by have := P2_lo; have := hBw; omega)⟩
         case end326 =>
          intro s R G w327 hI
          have hS := hI.same
          have hTT := hI.holds
          have hz0 := UU.out.2.2.2.1
          have P3 := P3.sameE hS P3_nb (by intro c hc; simp at hc; (try subst hc); (try simp only); omega)
          have P4 := P4.sameE hS P4_nb (by intro c hc; simp at hc; (try subst hc); (try simp only); omega)
          have P2 : Blk w327 g0 29 (coneC false A1 A0) := hI.olds' 3 (List.mem_range.2 (show 3 < 4 by decide)) 0 rfl
          have T0 := hTT.1
          have UU := hide hTT.2.1
          clear hS hz0 hTT hI
          generalize hF : putE _ _ _ _ _ _ _ = FF
          have hF2 : FF = { tmps := #[.pointer (some ⟨b, 0, none⟩), undef, .pointer (some ⟨g0, 0, none⟩), .pointer (some ⟨g3, 0, none⟩), .pointer (some ⟨g4, 0, none⟩), .pointer (some ⟨b, 0, none⟩), .bool false, undef, .pointer (some ⟨b, 0, none⟩), .agg A0, .pointer (some ⟨b, 0, none⟩), .agg A1, .agg A0, .agg A1, .int .i64 r, .bool true, .agg A1, .agg A0, .agg A1, .agg A0, .agg (coneC false A1 A0)], defers := [] } := by subst hF; kernel_rfl
          clear hF
          subst hF2
          go_wp2_with fail
          have hle : leF (n1, d1) (n0, d0) := by
            unfold leF
            have := HF.out.2.2
            unfold cmpI at this
            show _ * _ ≤ _ * _
            simp only
            split at this <;> (try split at this) <;> omega
          have sz : (cnC (.cl (n1, d1) (n0, d0))).size = 21 := coneC_size false (frC_rc _).size (frC_rc _).size
          have hX : coneC false A1 A0 = cnC (.cl (n1, d1) (n0, d0)) := by rw [← HA.out.1, ← HA.out.2]; rfl
          rw [hX] at P2
          clear hX
          obtain ⟨Y, hY⟩ : ∃ Y, cnC (.cl (n1, d1) (n0, d0)) = Y := ⟨_, rfl⟩
          rw [hY] at P2 sz
          exact bodyPost_ret (results_cell_row (p := 2) (ty := 29) rfl _ _ _ 29 Y (0, 0) _ rfl P2 uCone rfl (by rw [iCone, sz])) rfl ⟨Cn.cl (n1, d1) (n0, d0), ⟨HF.out.2.1, HF.out.1, hle⟩, by rw [hY], T0, HU.out.trans UU.out⟩
     · have dr : decide (0 < r) = false := decide_eq_false hr
       have P2_lt := P2.lt
       have P3_lt := P3.lt
       have P4_lt := P4.lt
       refine wp_evs [.q, .q, .q, .q] [0, 0, 0, 0] (fun R => [.agg A0, .agg A1, .int .i64 r, .bool false]) (fun _ => (.cells #[] 0 (0, 0))) (fun R _ => (.cells #[] 0 (0, 0))) (fun _ => 0) (TE B b w (XA [])) (fun k => k = b) (by kernel_rfl) (by kernel_rfl) (by kernel_rfl) rfl (fun _ => rfl) (fun k e => by subst e; exact T0.2.1) (by simp) (by simp) (by simp) (fun R R' => ⟨fun _ => rfl, fun _ => rfl, fun _ => rfl, fun _ => rfl, trivial⟩) (fun _ _ _ _ => rfl) te_below ⟨T0, UU.out, XA.zero⟩ ?ops616 ?end616
       case ops616 =>
         refine ⟨?_, ?_, ?_, ?_, trivial⟩
         · refine er_q ?vn613 ?hn613 ?kn613 ?gn613 ?_
           case hn613 => exact rfl
           case vn613 => exact (fun R => .agg A0)
           case kn613 => exact (fun R => rfl)
           case gn613 => exact gd_none rfl
           intro R s w' hT hs hw ha
           have L := ld_all (P3.sameE hw P3_nb (by simp)) uRat rfl iRat r0.size
           generalize hA : putE _ _ _ _ _ _ _ = AA
           refine q_load rfl ?_ L
           subst hA
           kernel_rfl
         · refine er_q ?vn614 ?hn614 ?kn614 ?gn614 ?_
           case hn614 => exact rfl
           case vn614 => exact (fun R => .agg A1)
           case kn614 => exact (fun R => rfl)
           case gn614 => exact gd_none rfl
           intro R s w' hT hs hw ha
           have L := ld_all (P4.sameE hw P4_nb (by simp)) uRat rfl iRat r1.size
           generalize hA : putE _ _ _ _ _ _ _ = AA
           refine q_load rfl ?_ L
           subst hA
           kernel_rfl
         · refine er_q ?vn615 ?hn615 ?kn615 ?gn615 ?_
           case hn615 => exact rfl
           case vn615 => exact (fun R => .int .i64 r)
           case kn615 => exact (fun R => rfl)
           case gn615 => exact gd_none rfl
           intro R s w' hT hs hw ha
           go_simp
           exact kC.out w'
         · refine er_q ?vn616 ?hn616 ?kn616 ?gn616 ?_
           case hn616 => exact rfl
           case vn616 => exact (fun R => .bool false)
           case kn616 => exact (fun R => rfl)
           case gn616 => exact gd_none rfl
           intro R s w' hT hs hw ha
           go_simp
       case end616 =>
        intro s R G w617 hI
        have hS := hI.same
        have hTT := hI.holds
        have hz0 := UU.out.2.2.2.1
        have P2 := P2.sameE hS P2_nb (by simp)
        have P3 := P3.sameE hS P3_nb (by simp)
        have P4 := P4.sameE hS P4_nb (by simp)
        have T0 := hTT.1
        have UU := hide hTT.2.1
        clear hS hz0 hTT hI
        generalize hF : putE _ _ _ _ _ _ _ = FF
        have hF2 : FF = { tmps := #[.pointer (some ⟨b, 0, none⟩), undef, .pointer (some ⟨g0, 0, none⟩), .pointer (some ⟨g3, 0, none⟩), .pointer (some ⟨g4, 0, none⟩), .pointer (some ⟨b, 0, none⟩), .bool false, undef, .pointer (some ⟨b, 0, none⟩), .agg A0, .pointer (some ⟨b, 0, none⟩), .agg A1, .agg A0, .agg A1, .int .i64 r, .bool false, undef, undef, undef, undef, undef], defers := [] } := by subst hF; kernel_rfl
        clear hF
        subst hF2
        go_upto_region 6 with fail
        have P2_lt := P2.lt
        have P3_lt := P3.lt
        have P4_lt := P4.lt
        refine wp_evs [.q, .q, .q, .so 0] [0, 0, 0, 0] (fun R => [.agg A0, .agg A1, .agg (coneC false A0 A1), undef]) (fun _ => (.cells #[] 0 (0, 0))) (fun R _ => (.cells (coneC false A0 A1) 29 (0, 0))) (fun _ => g0) (TE B b w (XA [])) (fun k => k = b) (by kernel_rfl) (by kernel_rfl) (by kernel_rfl) rfl (fun _ => rfl) (fun k e => by subst e; exact T0.2.1) (by intro c hc; simp at hc; (try subst hc); (try simp only); (intro e; omega)) (by intro c hc; simp at hc; (try subst hc); (try simp only); omega) (by intro c c' h1 h2 _; simp at h1 h2; omega) (fun R R' => ⟨fun _ => rfl, fun _ => rfl, fun _ => rfl, fun _ => rfl, trivial⟩) (fun _ _ _ _ => rfl) te_below ⟨T0, UU.out, XA.zero⟩ ?ops621 ?end621
        case ops621 =>
          refine ⟨?_, ?_, ?_, ?_, trivial⟩
          · refine er_q ?vn618 ?hn618 ?kn618 ?gn618 ?_
            case hn618 => exact rfl
            case vn618 => exact (fun R => .agg A0)
            case kn618 => exact (fun R => rfl)
            case gn618 => exact gd_none rfl
            intro R s w' hT hs hw ha
            have L := ld_all (P3.sameE hw P3_nb (by intro c hc; simp at hc; (try subst hc); (try simp only); omega)) uRat rfl iRat r0.size
            generalize hA : putE _ _ _ _ _ _ _ = AA
            refine q_load rfl ?_ L
            subst hA
            kernel_rfl
          · refine er_q ?vn619 ?hn619 ?kn619 ?gn619 ?_
            case hn619 => exact rfl
            case vn619 => exact (fun R => .agg A1)
            case kn619 => exact (fun R => rfl)
            case gn619 => exact gd_none rfl
            intro R s w' hT hs hw ha
            have L := ld_all (P4.sameE hw P4_nb (by intro c hc; simp at hc; (try subst hc); (try simp only); omega)) uRat rfl iRat r1.size
            generalize hA : putE _ _ _ _ _ _ _ = AA
            refine q_load rfl ?_ L
            subst hA
            kernel_rfl
          · refine er_q ?vn620 ?hn620 ?kn620 ?gn620 ?_
            case hn620 => exact rfl
            case vn620 => exact (fun R => .agg (coneC false A0 A1))
            case kn620 => exact (fun R => rfl)
            case gn620 => exact gd_none rfl
            intro R s w' hT hs hw ha
            generalize hA : putE _ _ _ _ _ _ _ = AA
            refine build_cone r0 r1 rfl ?_ ?_
            · subst hA; kernel_rfl
            · subst hA; kernel_rfl
          · refine er_so (c := 0) (Ty := ?Tn621) (p := ?pn621) (x := ?xn621) g0 ?fn621 ?un621 ?vn621 ?hn621 ?on621 ?kn621 ?ln621 ?gn621 ?dn621 ?en621 ?_
            case hn621 => exact rfl
            case on621 => exact rfl
            case fn621 => exact (fun R => (.cells (coneC false A0 A1) 29 (0, 0)))
            case un621 => exact (fun R => .pointer (some ⟨g0, 0, none⟩))
            case vn621 => exact (fun R => .agg (coneC false A0 A1))
            case kn621 => exact (fun R => rfl)
            case ln621 => exact rfl
            case gn621 => exact gd_none rfl
            case dn621 =>
              intro R
              kernel_rfl
            case en621 =>
              intro R
              kernel_rfl
            intro R s ρ w hT hs hp hx hz
            refine ⟨store_rowN (g := g0) rfl hp hx (hz.trans P2) iCone (rfl) (coneC_size false r0.size r1.size) (cone_one false r0.one r1.one), fun w1 hF => te_filled hT hF P2_lo P2_nb (by have := P2_lo; have := hBw; omega)⟩
        case end621 =>
         intro s R G w622 hI
         have hS := hI.same
         have hTT := hI.holds
         have hz0 := UU.out.2.2.2.1
         have P3 := P3.sameE hS P3_nb (by intro c hc; simp at hc; (try subst hc); (try simp only); omega)
         have P4 := P4.sameE hS P4_nb (by intro c hc; simp at hc; (try subst hc); (try simp only); omega)
         have P2 : Blk w622 g0 29 (coneC false A0 A1) := hI.olds' 3 (List.mem_range.2 (show 3 < 4 by decide)) 0 rfl
         have T0 := hTT.1
         have UU := hide hTT.2.1
         clear hS hz0 hTT hI
         generalize hF : putE _ _ _ _ _ _ _ = FF
         have hF2 : FF = { tmps := #[.pointer (some ⟨b, 0, none⟩), undef, .pointer (some ⟨g0, 0, none⟩), .pointer (some ⟨g3, 0, none⟩), .pointer (some ⟨g4, 0, none⟩), .pointer (some ⟨b, 0, none⟩), .bool false, undef, .pointer (some ⟨b, 0, none⟩), .agg A0, .pointer (some ⟨b, 0, none⟩), .agg A1, .agg A0, .agg A1, .int .i64 r, .bool false, undef, undef, .agg A0, .agg A1, .agg (coneC false A0 A1)], defers := [] } := by subst hF; kernel_rfl
         clear hF
         subst hF2
         go_wp2_with fail
         have hle : leF (n0, d0) (n1, d1) := by
           unfold leF
           have := HF.out.2.2
           unfold cmpI at this
           show _ * _ ≤ _ * _
           simp only
           split at this <;> (try split at this) <;> omega
         have sz : (cnC (.cl (n0, d0) (n1, d1))).size = 21 := coneC_size false (frC_rc _).size (frC_rc _).size
         have hX : coneC false A0 A1 = cnC (.cl (n0, d0) (n1, d1)) := by rw [← HA.out.1, ← HA.out.2]; rfl
         rw [hX] at P2
         clear hX
         obtain ⟨Y, hY⟩ : ∃ Y, cnC (.cl (n0, d0) (n1, d1)) = Y := ⟨_, rfl⟩
         rw [hY] at P2 sz
         exact bodyPost_ret (results_cell_row (p := 2) (ty := 29) rfl _ _ _ 29 Y (0, 0) _ rfl P2 uCone rfl (by rw [iCone, sz])) rfl ⟨Cn.cl (n0, d0) (n1, d1), ⟨HF.out.1, HF.out.2.1, hle⟩, by rw [hY], T0, HU.out.trans UU.out⟩
end
section
open Go Go.RowKit Go.Sort
attribute [local go_sem] qUpon eUpon putE slE
set_option maxHeartbeats 6400000 in
set_option maxRecDepth 100000 in
theorem pc_through (B V D Ep Lo Hi U L H : Array Value) (v ep : Int) (dt : Nat) (o1 o2 o3 p1 p2 : Bool) (W : World) (sB : B.size = 5) (oB : B.all (·.oneCell') = true)
   (sD : D.size = 5) (oD : D.all (·.oneCell') = true) (sLo : Lo.size = 5) (oLo : Lo.all (·.oneCell') = true) (sHi : Hi.size = 5) (oHi : Hi.all (·.oneCell') = true) (rL : RC L) (rH : RC H) (he : 0 ≤ ep) (he2 : ep ≤ 4611686018427387904) (hdt : 0 < dt) (hdt2 : dt < 18446744073709551616)
   (k1 : Hid (∀ w, Calls Tryz.prog 32 #[.agg B] w (Ret (.bool true) w)))
   (k4 : Hid (∀ w, Calls Tryz.prog 34 #[.int .i64 v] w (Ret (.agg V) w))) (k5 : Hid (∀ w, Calls Tryz.prog 33 #[.agg V, .agg B] w (Ret (.tuple #[.agg D, .bool o1]) w)))
   (k6 : Hid (∀ w, Calls Tryz.prog 34 #[.int .i64 ep] w (Ret (.agg Ep) w))) (k7 : Hid (∀ w, Calls Tryz.prog 33 #[.agg D, .agg Ep] w (Ret (.tuple #[.agg Lo, .bool o2]) w))) (k8 : Hid (∀ w, Calls Tryz.prog 35 #[.agg D, .agg Ep] w (Ret (.tuple #[.agg Hi, .bool o3]) w)))
   (k9 : Hid (∀ w, Calls Tryz.prog 37 #[.int .u64 (dt : Int)] w (Ret (.agg U) w))) (k10 : Hid (∀ w, Calls Tryz.prog 36 #[.agg Lo, .agg U] w (Ret (.tuple #[.agg L, .bool p1]) w))) (k11 : Hid (∀ w, Calls Tryz.prog 36 #[.agg Hi, .agg U] w (Ret (.tuple #[.agg H, .bool p2]) w))) :
   Calls Tryz.prog 13 #[.agg B, .int .i64 v, .int .i64 ep, .int .u64 (dt : Int)] W (Ret (.tuple #[.agg (coneC false L H), .bool true]) W) := by
 have d1 : decide (ep < 0) = false := decide_eq_false (by omega)
 have d2 : decide (4611686018427387904 < ep) = false := decide_eq_false (by omega)
 have d3 : ((dt : Int) == 0) = false := by rw [beq_eq_false_iff_ne]; omega
 have d4 : decide (dt = 0) = false := decide_eq_false (by omega)
 have sL := rL.size
 have oL := rL.one
 have sH := rH.size
 have oH := rH.one
 have sC := coneC_size false sL sH
 have oC := cone_one false oL oH
 clear he he2 hdt
 have P4 := (Blk.new W 25 B).alloc (.cells z21 29)
 have P8 := Blk.new (W.alloc (.cells B 25)) 29 z21
 rw [alloc_size] at P8
 have EE := hide ((ext_alloc W (.cells B 25)).trans (ext_alloc _ (.cells z21 29)))
 obtain ⟨W1, hW1⟩ : ∃ W1, ((W.alloc (.cells B 25)).alloc (.cells z21 29)) = W1 := ⟨_, rfl⟩
 obtain ⟨g0, hg⟩ : ∃ g, W.heap.size = g := ⟨_, rfl⟩
 rw [hW1] at P4 P8 EE
 rw [hg] at P4 P8
 have P4_lo : W.heap.size ≤ g0 := by omega
 have P8_lo : W.heap.size ≤ g0 + 1 := by omega
 have HW := hide hW1
 have Hg := hide hg
 clear hW1 hg
 go_enter Tryz.func13, Tryz.ntmps13
 go_upto_region 1 with fail
 unfold z21 at HW
 rw [HW.out, Hg.out]
 clear HW Hg
 have P4_lt := P4.lt
 have P8_lt := P8.lt
 refine wp_evs [.q, .q, .q, .q, .q, .q, .q, .q, .q, .q, .q, .q, .q, .q, .q] [0, 0, 0, 0, 0, 0, 0, 0, 0, 0, 0, 0, 0, 0, 0] (fun R => [.agg B, .bool true, .bool false, .bool false, .int .i64 ep, .bool false, .bool false, .bool false, .int .i64 ep, .bool false, .bool false, .bool false, .int .u64 (dt : Int), .bool false, .bool false]) (fun _ => (.cells #[] 0 (0, 0))) (fun R _ => (.cells #[] 0 (0, 0))) (fun _ => 0) (XE W) (fun _ => False) (by kernel_rfl) (by kernel_rfl) (by kernel_rfl) rfl (fun _ => rfl) (fun _ h => h.elim) (fun _ _ h => h) (by simp) (by simp) (fun R R' => ⟨fun _ => rfl, fun _ => rfl, fun _ => rfl, fun _ => rfl, fun _ => rfl, fun _ => rfl, fun _ => rfl, fun _ => rfl, fun _ => rfl, fun _ => rfl, fun _ => rfl, fun _ => rfl, fun _ => rfl, fun _ => rfl, fun _ => rfl, trivial⟩) (fun _ _ _ _ => rfl) xe_below EE.out ?ops15 ?end15
 case ops15 =>
   refine ⟨?_, ?_, ?_, ?_, ?_, ?_, ?_, ?_, ?_, ?_, ?_, ?_, ?_, ?_, ?_, trivial⟩
   · refine er_q ?vn1 ?hn1 ?kn1 ?gn1 ?_
     case hn1 => exact rfl
     case vn1 => exact (fun R => .agg B)
     case kn1 => exact (fun R => rfl)
     case gn1 => exact gd_none rfl
     intro R s w' hT hs hw ha
     have L := ld_all (P4.sameE hw (fun h => h) (by simp)) uWide rfl iWide sB
     generalize hA : putE _ _ _ _ _ _ _ = AA
     refine q_load rfl ?_ L
     subst hA
     kernel_rfl
   · refine er_q ?vn2 ?hn2 ?kn2 ?gn2 ?_
     case hn2 => exact rfl
     case vn2 => exact (fun R => .bool true)
     case kn2 => exact (fun R => rfl)
     case gn2 => exact gd_none rfl
     intro R s w' hT hs hw ha
     go_simp
     exact k1.out w'
   · refine er_q ?vn3 ?hn3 ?kn3 ?gn3 ?_
     case hn3 => exact rfl
     case vn3 => exact (fun R => .bool false)
     case kn3 => exact (fun R => rfl)
     case gn3 => exact gd_none rfl
     intro R s w' hT hs hw ha
     go_simp
   · refine er_q ?vn4 ?hn4 ?kn4 ?gn4 ?_
     case hn4 => exact rfl
     case vn4 => exact (fun R => .bool false)
     case kn4 => exact (fun R => rfl)
     case gn4 => exact gd_none rfl
     intro R s w' hT hs hw ha
     go_simp
   · refine er_q ?vn5 ?hn5 ?kn5 ?gn5 ?_
     case hn5 => exact rfl
     case vn5 => exact (fun R => .int .i64 ep)
     case kn5 => exact (fun R => rfl)
     case gn5 => (refine gd_some rfl ?_; intro R; kernel_rfl)
     intro R s w' hT hs hw ha
     go_simp
   · refine er_q ?vn6 ?hn6 ?kn6 ?gn6 ?_
     case hn6 => exact rfl
     case vn6 => exact (fun R => .bool false)
     case kn6 => exact (fun R => rfl)
     case gn6 => (refine gd_some rfl ?_; intro R; kernel_rfl)
     intro R s w' hT hs hw ha
     go_simp
   · refine er_q ?vn7 ?hn7 ?kn7 ?gn7 ?_
     case hn7 => exact rfl
     case vn7 => exact (fun R => .bool false)
     case kn7 => exact (fun R => rfl)
     case gn7 => exact gd_none rfl
     intro R s w' hT hs hw ha
     go_simp
   · refine er_q ?vn8 ?hn8 ?kn8 ?gn8 ?_
     case hn8 => exact rfl
     case vn8 => exact (fun R => .bool false)
     case kn8 => exact (fun R => rfl)
     case gn8 => exact gd_none rfl
     intro R s w' hT hs hw ha
     go_simp
   · refine er_q ?vn9 ?hn9 ?kn9 ?gn9 ?_
     case hn9 => exact rfl
     case vn9 => exact (fun R => .int .i64 ep)
     case kn9 => exact (fun R => rfl)
     case gn9 => (refine gd_some rfl ?_; intro R; kernel_rfl)
     intro R s w' hT hs hw ha
     go_simp
   · refine er_q ?vn10 ?hn10 ?kn10 ?gn10 ?_
     case hn10 => exact rfl
     case vn10 => exact (fun R => .bool false)
     case kn10 => exact (fun R => rfl)
     case gn10 => (refine gd_some rfl ?_; intro R; kernel_rfl)
     intro R s w' hT hs hw ha
     go_simp
   · refine er_q ?vn11 ?hn11 ?kn11 ?gn11 ?_
     case hn11 => exact rfl
     case vn11 => exact (fun R => .bool false)
     case kn11 => exact (fun R => rfl)
     case gn11 => exact gd_none rfl
     intro R s w' hT hs hw ha
     go_simp
   · refine er_q ?vn12 ?hn12 ?kn12 ?gn12 ?_
     case hn12 => exact rfl
     case vn12 => exact (fun R => .bool false)
     case kn12 => exact (fun R => rfl)
     case gn12 => exact gd_none rfl
     intro R s w' hT hs hw ha
     go_simp
   · refine er_q ?vn13 ?hn13 ?kn13 ?gn13 ?_
     case hn13 => exact rfl
     case vn13 => exact (fun R => .int .u64 (dt : Int))
     case kn13 => exact (fun R => rfl)
     case gn13 => (refine gd_some rfl ?_; intro R; kernel_rfl)
     intro R s w' hT hs hw ha
     go_simp
   · refine er_q ?vn14 ?hn14 ?kn14 ?gn14 ?_
     case hn14 => exact rfl
     case vn14 => exact (fun R => .bool false)
     case kn14 => exact (fun R => rfl)
     case gn14 => (refine gd_some rfl ?_; intro R; kernel_rfl)
     intro R s w' hT hs hw ha
     go_simp
   · refine er_q ?vn15 ?hn15 ?kn15 ?gn15 ?_
     case hn15 => exact rfl
     case vn15 => exact (fun R => .bool false)
     case kn15 => exact (fun R => rfl)
     case gn15 => exact gd_none rfl
     intro R s w' hT hs hw ha
     go_simp
 case end15 =>
  intro sI R G w16 hI
  have hS := hI.same
  have hTT := hI.holds
  have hz0 := EE.out.size
  have P4 := P4.sameE hS (fun h => h) (by simp)
  have P8 := P8.sameE hS (fun h => h) (by simp)
  have EE := hide (show Ext _ _ from hTT)
  clear hS hz0 hTT hI
  generalize hF : putE _ _ _ _ _ _ _ = FF
  have hF2 : FF = { tmps := #[.agg B, .int .i64 v, .int .i64 ep, .int .u64 (dt : Int), .pointer (some ⟨g0, 0, none⟩), undef, undef, undef, .pointer (some ⟨g0 + 1, 0, none⟩), .bool false, undef, undef, undef, undef, undef, undef, undef, undef, undef, undef, .agg B, .bool true, .bool false, .bool false, .int .i64 ep, .bool false, .bool false, .bool false, .int .i64 ep, .bool false, .bool false, .bool false, .int .u64 (dt : Int), .bool false, .bool false, undef, undef, undef, undef, undef, undef, undef, undef, undef, undef, undef, undef, undef, undef, undef, undef, undef, undef, undef, undef, undef, undef, undef, undef, undef, undef, undef, undef, undef, undef, undef, undef, undef, undef, undef, undef, undef, undef, undef], defers := [] } := by subst hF; kernel_rfl
  clear hF
  subst hF2
  go_upto_region 3 with fail
  have P4_lt := P4.lt
  have P8_lt := P8.lt
  refine wp_ev [.q, .q, .q, .q, .q, .q, .q, .al, .st 7, .q] [0, 0, 0, 0, 0, 0, 0, 0, 0, 0] (fun R => [.int .i64 v, .agg V, .agg B, .tuple #[.agg D, .bool o1], .tuple #[.agg D, .bool o1], .agg D, .bool o1, undef, undef, .bool o1]) (fun _ => (.cells z5 25 (0, 0))) (fun R _ => (.cells D 25 (0, 0))) (fun _ => 0) (XE W) (fun _ => False) (by kernel_rfl) (by kernel_rfl) (by kernel_rfl) (by kernel_rfl) rfl (fun _ => rfl) (fun _ h => h.elim) (fun _ _ h => h) (by simp) (by simp) (fun R R' => ⟨fun _ => rfl, fun _ => rfl, fun _ => rfl, fun _ => rfl, fun _ => rfl, fun _ => rfl, fun _ => rfl, fun _ => rfl, fun _ => rfl, fun _ => rfl, trivial⟩) (fun _ _ _ _ => rfl) xe_below (EE.out.trans (ext_drew _)) ?ops26 ?end26
  case ops26 =>
    refine ⟨?_, ?_, ?_, ?_, ?_, ?_, ?_, ?_, ?_, ?_, trivial⟩
    · refine er_q ?vn17 ?hn17 ?kn17 ?gn17 ?_
      case hn17 => exact rfl
      case vn17 => exact (fun R => .int .i64 v)
      case kn17 => exact (fun R => rfl)
      case gn17 => exact gd_none rfl
      intro R s w' hT hs hw ha
      go_simp
    · refine er_q ?vn18 ?hn18 ?kn18 ?gn18 ?_
      case hn18 => exact rfl
      case vn18 => exact (fun R => .agg V)
      case kn18 => exact (fun R => rfl)
      case gn18 => exact gd_none rfl
      intro R s w' hT hs hw ha
      go_simp
      exact k4.out w'
    · refine er_q ?vn19 ?hn19 ?kn19 ?gn19 ?_
      case hn19 => exact rfl
      case vn19 => exact (fun R => .agg B)
      case kn19 => exact (fun R => rfl)
      case gn19 => exact gd_none rfl
      intro R s w' hT hs hw ha
      have L := ld_all (P4.sameE hw (fun h => h) (by simp)) uWide rfl iWide sB
      generalize hA : putE _ _ _ _ _ _ _ = AA
      refine q_load rfl ?_ L
      subst hA
      kernel_rfl
    · refine er_q ?vn20 ?hn20 ?kn20 ?gn20 ?_
      case hn20 => exact rfl
      case vn20 => exact (fun R => .tuple #[.agg D, .bool o1])
      case kn20 => exact (fun R => rfl)
      case gn20 => exact gd_none rfl
      intro R s w' hT hs hw ha
      go_simp
      exact k5.out w'
    · refine er_q ?vn21 ?hn21 ?kn21 ?gn21 ?_
      case hn21 => exact rfl
      case vn21 => exact (fun R => .tuple #[.agg D, .bool o1])
      case kn21 => exact (fun R => rfl)
      case gn21 => exact gd_none rfl
      intro R s w' hT hs hw ha
      go_simp
    · refine er_q ?vn22 ?hn22 ?kn22 ?gn22 ?_
      case hn22 => exact rfl
      case vn22 => exact (fun R => .agg D)
      case kn22 => exact (fun R => rfl)
      case gn22 => exact gd_none rfl
      intro R s w' hT hs hw ha
      go_simp
    · refine er_q ?vn23 ?hn23 ?kn23 ?gn23 ?_
      case hn23 => exact rfl
      case vn23 => exact (fun R => .bool o1)
      case kn23 => exact (fun R => rfl)
      case gn23 => exact gd_none rfl
      intro R s w' hT hs hw ha
      go_simp
    · refine er_al ?zn24 ?hn24 ?kn24 ?gn24 ?_
      case zn24 => exact (.cells z5 25 (0, 0))
      case hn24 => exact rfl
      case kn24 => exact rfl
      case gn24 => exact gd_none rfl
      intro ρ w'
      go_simp
      exact ⟨rfl, rfl⟩
    · refine er_st (j := 7) (Ty := ?Tn25) (p := ?pn25) (x := ?xn25) ?fn25 ?zn25 ?vn25 ?hn25 ?on25 ?kn25 ?ln25 ?gn25 ?en25 ?_
      case hn25 => exact rfl
      case on25 => exact rfl
      case fn25 => exact (fun R => (.cells D 25 (0, 0)))
      case zn25 => exact (.cells z5 25 (0, 0))
      case vn25 => exact (fun R => .agg D)
      case kn25 => exact (fun R => rfl)
      case ln25 => exact rfl
      case gn25 => exact gd_none rfl
      case en25 =>
        intro R
        kernel_rfl
      intro R s ρ w g hT hs hp hx hg hz
      exact ⟨store_row rfl hp hx hz iWide (sD) (oD), fun w1 hF => ext_filled hT hF (Nat.le_trans EE.out.size hg)⟩
    · refine er_q ?vn26 ?hn26 ?kn26 ?gn26 ?_
      case hn26 => exact rfl
      case vn26 => exact (fun R => .bool o1)
      case kn26 => exact (fun R => rfl)
      case gn26 => exact gd_none rfl
      intro R s w' hT hs hw ha
      go_simp
  case end26 =>
   intro sI R G w27 hI
   have hS := hI.same
   have hTT := hI.holds
   have hz0 := EE.out.size
   have P4 := P4.sameE hS (fun h => h) (by simp)
   have P8 := P8.sameE hS (fun h => h) (by simp)
   have P10 : Blk w27 (G 7) 25 D := (hI.fulls 8 (List.mem_range.2 (show 8 < 10 by decide)) 7 rfl).2.2
   have hmP10 := (hI.made 7 (List.mem_range.2 (show 7 < 10 by decide)) rfl).1
   have P10_lo : W.heap.size ≤ G 7 := Nat.le_trans hz0 hmP10
   have ngP4_10 : g0 ≠ G 7 := by omega
   have ngP8_10 : g0 + 1 ≠ G 7 := by omega
   have EE := hide (show Ext _ _ from hTT)
   clear hS hz0 hTT hI
   generalize hF : putE _ _ _ _ _ _ _ = FF
   have hF2 : FF = { tmps := #[.agg B, .int .i64 v, .int .i64 ep, .int .u64 (dt : Int), .pointer (some ⟨g0, 0, none⟩), undef, undef, undef, .pointer (some ⟨g0 + 1, 0, none⟩), .bool false, .pointer (some ⟨G 7, 0, none⟩), .bool o1, undef, undef, undef, undef, undef, undef, undef, undef, .agg B, .bool true, .bool false, .bool false, .int .i64 ep, .bool false, .bool false, .bool false, .int .i64 ep, .bool false, .bool false, .bool false, .int .u64 (dt : Int), .bool false, .bool false, undef, .tuple #[.agg D, .bool o1], .int .i64 v, .agg V, .agg B, .tuple #[.agg D, .bool o1], .agg D, .bool o1, undef, undef, undef, undef, undef, undef, undef, undef, undef, undef, undef, undef, undef, undef, undef, undef, undef, undef, undef, undef, undef, undef, undef, undef, undef, undef, undef, undef, undef, undef, undef], defers := [] } := by subst hF; kernel_rfl
   clear hF
   subst hF2
   generalize G 7 = g10 at *
   go_upto_region 4 with fail
   have P4_lt := P4.lt
   have P8_lt := P8.lt
   have P10_lt := P10.lt
   refine wp_ev [.q, .q, .q, .q, .q, .q, .q, .al, .st 7, .q] [0, 0, 0, 0, 0, 0, 0, 0, 0, 0] (fun R => [.agg D, .int .i64 ep, .agg Ep, .tuple #[.agg Lo, .bool o2], .tuple #[.agg Lo, .bool o2], .agg Lo, .bool o2, undef, undef, .bool o2]) (fun _ => (.cells z5 25 (0, 0))) (fun R _ => (.cells Lo 25 (0, 0))) (fun _ => 0) (XE W) (fun _ => False) (by kernel_rfl) (by kernel_rfl) (by kernel_rfl) (by kernel_rfl) rfl (fun _ => rfl) (fun _ h => h.elim) (fun _ _ h => h) (by simp) (by simp) (fun R R' => ⟨fun _ => rfl, fun _ => rfl, fun _ => rfl, fun _ => rfl, fun _ => rfl, fun _ => rfl, fun _ => rfl, fun _ => rfl, fun _ => rfl, fun _ => rfl, trivial⟩) (fun _ _ _ _ => rfl) xe_below (EE.out.trans (ext_drew _)) ?ops37 ?end37
   case ops37 =>
     refine ⟨?_, ?_, ?_, ?_, ?_, ?_, ?_, ?_, ?_, ?_, trivial⟩
     · refine er_q ?vn28 ?hn28 ?kn28 ?gn28 ?_
       case hn28 => exact rfl
       case vn28 => exact (fun R => .agg D)
       case kn28 => exact (fun R => rfl)
       case gn28 => exact gd_none rfl
       intro R s w' hT hs hw ha
       have L := ld_all (P10.sameE hw (fun h => h) (by simp)) uWide rfl iWide sD
       generalize hA : putE _ _ _ _ _ _ _ = AA
       refine q_load rfl ?_ L
       subst hA
       kernel_rfl
     · refine er_q ?vn29 ?hn29 ?kn29 ?gn29 ?_
       case hn29 => exact rfl
       case vn29 => exact (fun R => .int .i64 ep)
       case kn29 => exact (fun R => rfl)
       case gn29 => exact gd_none rfl
       intro R s w' hT hs hw ha
       go_simp
     · refine er_q ?vn30 ?hn30 ?kn30 ?gn30 ?_
       case hn30 => exact rfl
       case vn30 => exact (fun R => .agg Ep)
       case kn30 => exact (fun R => rfl)
       case gn30 => exact gd_none rfl
       intro R s w' hT hs hw ha
       go_simp
       exact k6.out w'
     · refine er_q ?vn31 ?hn31 ?kn31 ?gn31 ?_
       case hn31 => exact rfl
       case vn31 => exact (fun R => .tuple #[.agg Lo, .bool o2])
       case kn31 => exact (fun R => rfl)
       case gn31 => exact gd_none rfl
       intro R s w' hT hs hw ha
       go_simp
       exact k7.out w'
     · refine er_q ?vn32 ?hn32 ?kn32 ?gn32 ?_
       case hn32 => exact rfl
       case vn32 => exact (fun R => .tuple #[.agg Lo, .bool o2])
       case kn32 => exact (fun R => rfl)
       case gn32 => exact gd_none rfl
       intro R s w' hT hs hw ha
       go_simp
     · refine er_q ?vn33 ?hn33 ?kn33 ?gn33 ?_
       case hn33 => exact rfl
       case vn33 => exact (fun R => .agg Lo)
       case kn33 => exact (fun R => rfl)
       case gn33 => exact gd_none rfl
       intro R s w' hT hs hw ha
       go_simp
     · refine er_q ?vn34 ?hn34 ?kn34 ?gn34 ?_
       case hn34 => exact rfl
       case vn34 => exact (fun R => .bool o2)
       case kn34 => exact (fun R => rfl)
       case gn34 => exact gd_none rfl
       intro R s w' hT hs hw ha
       go_simp
     · refine er_al ?zn35 ?hn35 ?kn35 ?gn35 ?_
       case zn35 => exact (.cells z5 25 (0, 0))
       case hn35 => exact rfl
       case kn35 => exact rfl
       case gn35 => exact gd_none rfl
       intro ρ w'
       go_simp
       exact ⟨rfl, rfl⟩
     · refine er_st (j := 7) (Ty := ?Tn36) (p := ?pn36) (x := ?xn36) ?fn36 ?zn36 ?vn36 ?hn36 ?on36 ?kn36 ?ln36 ?gn36 ?en36 ?_
       case hn36 => exact rfl
       case on36 => exact rfl
       case fn36 => exact (fun R => (.cells Lo 25 (0, 0)))
       case zn36 => exact (.cells z5 25 (0, 0))
       case vn36 => exact (fun R => .agg Lo)
       case kn36 => exact (fun R => rfl)
       case ln36 => exact rfl
       case gn36 => exact gd_none rfl
       case en36 =>
         intro R
         kernel_rfl
       intro R s ρ w g hT hs hp hx hg hz
       exact ⟨store_row rfl hp hx hz iWide (sLo) (oLo), fun w1 hF => ext_filled hT hF (Nat.le_trans EE.out.size hg)⟩
     · refine er_q ?vn37 ?hn37 ?kn37 ?gn37 ?_
       case hn37 => exact rfl
       case vn37 => exact (fun R => .bool o2)
       case kn37 => exact (fun R => rfl)
       case gn37 => exact gd_none rfl
       intro R s w' hT hs hw ha
       go_simp
   case end37 =>
    intro sI R G w38 hI
    have hS := hI.same
    have hTT := hI.holds
    have hz0 := EE.out.size
    have P4 := P4.sameE hS (fun h => h) (by simp)
    have P8 := P8.sameE hS (fun h => h) (by simp)
    have P10 := P10.sameE hS (fun h => h) (by simp)
    have P12 : Blk w38 (G 7) 25 Lo := (hI.fulls 8 (List.mem_range.2 (show 8 < 10 by decide)) 7 rfl).2.2
    have hmP12 := (hI.made 7 (List.mem_range.2 (show 7 < 10 by decide)) rfl).1
    have P12_lo : W.heap.size ≤ G 7 := Nat.le_trans hz0 hmP12
    have ngP4_12 : g0 ≠ G 7 := by omega
    have ngP8_12 : g0 + 1 ≠ G 7 := by omega
    have ngP10_12 : g10 ≠ G 7 := by omega
    have EE := hide (show Ext _ _ from hTT)
    clear hS hz0 hTT hI
    generalize hF : putE _ _ _ _ _ _ _ = FF
    have hF2 : FF = { tmps := #[.agg B, .int .i64 v, .int .i64 ep, .int .u64 (dt : Int), .pointer (some ⟨g0, 0, none⟩), undef, undef, undef, .pointer (some ⟨g0 + 1, 0, none⟩), .bool false, .pointer (some ⟨g10, 0, none⟩), .bool o1, .pointer (some ⟨G 7, 0, none⟩), .bool o2, undef, undef, undef, undef, undef, undef, .agg B, .bool true, .bool false, .bool false, .int .i64 ep, .bool false, .bool false, .bool false, .int .i64 ep, .bool false, .bool false, .bool false, .int .u64 (dt : Int), .bool false, .bool false, undef, .tuple #[.agg D, .bool o1], .int .i64 v, .agg V, .agg B, .tuple #[.agg D, .bool o1], .agg D, .bool o1, .tuple #[.agg Lo, .bool o2], .agg D, .int .i64 ep, .agg Ep, .tuple #[.agg Lo, .bool o2], .agg Lo, .bool o2, undef, undef, undef, undef, undef, undef, undef, undef, undef, undef, undef, undef, undef, undef, undef, undef, undef, undef, undef, undef, undef, undef, undef, undef], defers := [] } := by subst hF; kernel_rfl
    clear hF
    subst hF2
    generalize G 7 = g12 at *
    go_upto_region 5 with fail
    have P4_lt := P4.lt
    have P8_lt := P8.lt
    have P10_lt := P10.lt
    have P12_lt := P12.lt
    refine wp_ev [.q, .q, .q, .q, .q, .q, .q, .al, .st 7, .q] [0, 0, 0, 0, 0, 0, 0, 0, 0, 0] (fun R => [.agg D, .int .i64 ep, .agg Ep, .tuple #[.agg Hi, .bool o3], .tuple #[.agg Hi, .bool o3], .agg Hi, .bool o3, undef, undef, .bool o3]) (fun _ => (.cells z5 25 (0, 0))) (fun R _ => (.cells Hi 25 (0, 0))) (fun _ => 0) (XE W) (fun _ => False) (by kernel_rfl) (by kernel_rfl) (by kernel_rfl) (by kernel_rfl) rfl (fun _ => rfl) (fun _ h => h.elim) (fun _ _ h => h) (by simp) (by simp) (fun R R' => ⟨fun _ => rfl, fun _ => rfl, fun _ => rfl, fun _ => rfl, fun _ => rfl, fun _ => rfl, fun _ => rfl, fun _ => rfl, fun _ => rfl, fun _ => rfl, trivial⟩) (fun _ _ _ _ => rfl) xe_below (EE.out.trans (ext_drew _)) ?ops48 ?end48
    case ops48 =>
      refine ⟨?_, ?_, ?_, ?_, ?_, ?_, ?_, ?_, ?_, ?_, trivial⟩
      · refine er_q ?vn39 ?hn39 ?kn39 ?gn39 ?_
        case hn39 => exact rfl
        case vn39 => exact (fun R => .agg D)
        case kn39 => exact (fun R => rfl)
        case gn39 => exact gd_none rfl
        intro R s w' hT hs hw ha
        have L := ld_all (P10.sameE hw (fun h => h) (by simp)) uWide rfl iWide sD
        generalize hA : putE _ _ _ _ _ _ _ = AA
        refine q_load rfl ?_ L
        subst hA
        kernel_rfl
      · refine er_q ?vn40 ?hn40 ?kn40 ?gn40 ?_
        case hn40 => exact rfl
        case vn40 => exact (fun R => .int .i64 ep)
        case kn40 => exact (fun R => rfl)
        case gn40 => exact gd_none rfl
        intro R s w' hT hs hw ha
        go_simp
      · refine er_q ?vn41 ?hn41 ?kn41 ?gn41 ?_
        case hn41 => exact rfl
        case vn41 => exact (fun R => .agg Ep)
        case kn41 => exact (fun R => rfl)
        case gn41 => exact gd_none rfl
        intro R s w' hT hs hw ha
        go_simp
        exact k6.out w'
      · refine er_q ?vn42 ?hn42 ?kn42 ?gn42 ?_
        case hn42 => exact rfl
        case vn42 => exact (fun R => .tuple #[.agg Hi, .bool o3])
        case kn42 => exact (fun R => rfl)
        case gn42 => exact gd_none rfl
        intro R s w' hT hs hw ha
        go_simp
        exact k8.out w'
      · refine er_q ?vn43 ?hn43 ?kn43 ?gn43 ?_
        case hn43 => exact rfl
        case vn43 => exact (fun R => .tuple #[.agg Hi, .bool o3])
        case kn43 => exact (fun R => rfl)
        case gn43 => exact gd_none rfl
        intro R s w' hT hs hw ha
        go_simp
      · refine er_q ?vn44 ?hn44 ?kn44 ?gn44 ?_
        case hn44 => exact rfl
        case vn44 => exact (fun R => .agg Hi)
        case kn44 => exact (fun R => rfl)
        case gn44 => exact gd_none rfl
        intro R s w' hT hs hw ha
        go_simp
      · refine er_q ?vn45 ?hn45 ?kn45 ?gn45 ?_
        case hn45 => exact rfl
        case vn45 => exact (fun R => .bool o3)
        case kn45 => exact (fun R => rfl)
        case gn45 => exact gd_none rfl
        intro R s w' hT hs hw ha
        go_simp
      · refine er_al ?zn46 ?hn46 ?kn46 ?gn46 ?_
        case zn46 => exact (.cells z5 25 (0, 0))
        case hn46 => exact rfl
        case kn46 => exact rfl
        case gn46 => exact gd_none rfl
        intro ρ w'
        go_simp
        exact ⟨rfl, rfl⟩
      · refine er_st (j := 7) (Ty := ?Tn47) (p := ?pn47) (x := ?xn47) ?fn47 ?zn47 ?vn47 ?hn47 ?on47 ?kn47 ?ln47 ?gn47 ?en47 ?_
        case hn47 => exact rfl
        case on47 => exact rfl
        case fn47 => exact (fun R => (.cells Hi 25 (0, 0)))
        case zn47 => exact (.cells z5 25 (0, 0))
        case vn47 => exact (fun R => .agg Hi)
        case kn47 => exact (fun R => rfl)
        case ln47 => exact rfl
        case gn47 => exact gd_none rfl
        case en47 =>
          intro R
          kernel_rfl
        intro R s ρ w g hT hs hp hx hg hz
        exact ⟨store_row rfl hp hx hz iWide (sHi) (oHi), fun w1 hF => ext_filled hT hF (Nat.le_trans EE.out.size hg)⟩
      · refine er_q ?vn48 ?hn48 ?kn48 ?gn48 ?_
        case hn48 => exact rfl
        case vn48 => exact (fun R => .bool o3)
        case kn48 => exact (fun R => rfl)
        case gn48 => exact gd_none rfl
        intro R s w' hT hs hw ha
        go_simp
    case end48 =>
     intro sI R G w49 hI
     have hS := hI.same
     have hTT := hI.holds
     have hz0 := EE.out.size
     have P4 := P4.sameE hS (fun h => h) (by simp)
     have P8 := P8.sameE hS (fun h => h) (by simp)
     have P10 := P10.sameE hS (fun h => h) (by simp)
     have P12 := P12.sameE hS (fun h => h) (by simp)
     have P14 : Blk w49 (G 7) 25 Hi := (hI.fulls 8 (List.mem_range.2 (show 8 < 10 by decide)) 7 rfl).2.2
     have hmP14 := (hI.made 7 (List.mem_range.2 (show 7 < 10 by decide)) rfl).1
     have P14_lo : W.heap.size ≤ G 7 := Nat.le_trans hz0 hmP14
     have ngP4_14 : g0 ≠ G 7 := by omega
     have ngP8_14 : g0 + 1 ≠ G 7 := by omega
     have ngP10_14 : g10 ≠ G 7 := by omega
     have ngP12_14 : g12 ≠ G 7 := by omega
     have EE := hide (show Ext _ _ from hTT)
     clear hS hz0 hTT hI
     generalize hF : putE _ _ _ _ _ _ _ = FF
     have hF2 : FF = { tmps := #[.agg B, .int .i64 v, .int .i64 ep, .int .u64 (dt : Int), .pointer (some ⟨g0, 0, none⟩), undef, undef, undef, .pointer (some ⟨g0 + 1, 0, none⟩), .bool false, .pointer (some ⟨g10, 0, none⟩), .bool o1, .pointer (some ⟨g12, 0, none⟩), .bool o2, .pointer (some ⟨G 7, 0, none⟩), .bool o3, undef, undef, undef, undef, .agg B, .bool true, .bool false, .bool false, .int .i64 ep, .bool false, .bool false, .bool false, .int .i64 ep, .bool false, .bool false, .bool false, .int .u64 (dt : Int), .bool false, .bool false, undef, .tuple #[.agg D, .bool o1], .int .i64 v, .agg V, .agg B, .tuple #[.agg D, .bool o1], .agg D, .bool o1, .tuple #[.agg Lo, .bool o2], .agg D, .int .i64 ep, .agg Ep, .tuple #[.agg Lo, .bool o2], .agg Lo, .bool o2, .tuple #[.agg Hi, .bool o3], .agg D, .int .i64 ep, .agg Ep, .tuple #[.agg Hi, .bool o3], .agg Hi, .bool o3, undef, undef, undef, undef, undef, undef, undef, undef, undef, undef, undef, undef, undef, undef, undef, undef, undef], defers := [] } := by subst hF; kernel_rfl
     clear hF
     subst hF2
     generalize G 7 = g14 at *
     go_upto_region 6 with fail
     have P4_lt := P4.lt
     have P8_lt := P8.lt
     have P10_lt := P10.lt
     have P12_lt := P12.lt
     have P14_lt := P14.lt
     refine wp_ev [.q, .q, .q, .q, .q, .q, .q, .al, .st 7, .q] [0, 0, 0, 0, 0, 0, 0, 0, 0, 0] (fun R => [.agg Lo, .int .u64 (dt : Int), .agg U, .tuple #[.agg L, .bool p1], .tuple #[.agg L, .bool p1], .agg L, .bool p1, undef, undef, .bool p1]) (fun _ => (.cells zR 27 (0, 0))) (fun R _ => (.cells L 27 (0, 0))) (fun _ => 0) (XE W) (fun _ => False) (by kernel_rfl) (by kernel_rfl) (by kernel_rfl) (by kernel_rfl) rfl (fun _ => rfl) (fun _ h => h.elim) (fun _ _ h => h) (by simp) (by simp) (fun R R' => ⟨fun _ => rfl, fun _ => rfl, fun _ => rfl, fun _ => rfl, fun _ => rfl, fun _ => rfl, fun _ => rfl, fun _ => rfl, fun _ => rfl, fun _ => rfl, trivial⟩) (fun _ _ _ _ => rfl) xe_below (EE.out.trans (ext_drew _)) ?ops59 ?end59
     case ops59 =>
       refine ⟨?_, ?_, ?_, ?_, ?_, ?_, ?_, ?_, ?_, ?_, trivial⟩
       · refine er_q ?vn50 ?hn50 ?kn50 ?gn50 ?_
         case hn50 => exact rfl
         case vn50 => exact (fun R => .agg Lo)
         case kn50 => exact (fun R => rfl)
         case gn50 => exact gd_none rfl
         intro R s w' hT hs hw ha
         have L := ld_all (P12.sameE hw (fun h => h) (by simp)) uWide rfl iWide sLo
         generalize hA : putE _ _ _ _ _ _ _ = AA
         refine q_load rfl ?_ L
         subst hA
         kernel_rfl
       · refine er_q ?vn51 ?hn51 ?kn51 ?gn51 ?_
         case hn51 => exact rfl
         case vn51 => exact (fun R => .int .u64 (dt : Int))
         case kn51 => exact (fun R => rfl)
         case gn51 => exact gd_none rfl
         intro R s w' hT hs hw ha
         go_simp
       · refine er_q ?vn52 ?hn52 ?kn52 ?gn52 ?_
         case hn52 => exact rfl
         case vn52 => exact (fun R => .agg U)
         case kn52 => exact (fun R => rfl)
         case gn52 => exact gd_none rfl
         intro R s w' hT hs hw ha
         go_simp
         exact k9.out w'
       · refine er_q ?vn53 ?hn53 ?kn53 ?gn53 ?_
         case hn53 => exact rfl
         case vn53 => exact (fun R => .tuple #[.agg L, .bool p1])
         case kn53 => exact (fun R => rfl)
         case gn53 => exact gd_none rfl
         intro R s w' hT hs hw ha
         go_simp
         exact k10.out w'
       · refine er_q ?vn54 ?hn54 ?kn54 ?gn54 ?_
         case hn54 => exact rfl
         case vn54 => exact (fun R => .tuple #[.agg L, .bool p1])
         case kn54 => exact (fun R => rfl)
         case gn54 => exact gd_none rfl
         intro R s w' hT hs hw ha
         go_simp
       · refine er_q ?vn55 ?hn55 ?kn55 ?gn55 ?_
         case hn55 => exact rfl
         case vn55 => exact (fun R => .agg L)
         case kn55 => exact (fun R => rfl)
         case gn55 => exact gd_none rfl
         intro R s w' hT hs hw ha
         go_simp
       · refine er_q ?vn56 ?hn56 ?kn56 ?gn56 ?_
         case hn56 => exact rfl
         case vn56 => exact (fun R => .bool p1)
         case kn56 => exact (fun R => rfl)
         case gn56 => exact gd_none rfl
         intro R s w' hT hs hw ha
         go_simp
       · refine er_al ?zn57 ?hn57 ?kn57 ?gn57 ?_
         case zn57 => exact (.cells zR 27 (0, 0))
         case hn57 => exact rfl
         case kn57 => exact rfl
         case gn57 => exact gd_none rfl
         intro ρ w'
         go_simp
         exact ⟨rfl, rfl⟩
       · refine er_st (j := 7) (Ty := ?Tn58) (p := ?pn58) (x := ?xn58) ?fn58 ?zn58 ?vn58 ?hn58 ?on58 ?kn58 ?ln58 ?gn58 ?en58 ?_
         case hn58 => exact rfl
         case on58 => exact rfl
         case fn58 => exact (fun R => (.cells L 27 (0, 0)))
         case zn58 => exact (.cells zR 27 (0, 0))
         case vn58 => exact (fun R => .agg L)
         case kn58 => exact (fun R => rfl)
         case ln58 => exact rfl
         case gn58 => exact gd_none rfl
         case en58 =>
           intro R
           kernel_rfl
         intro R s ρ w g hT hs hp hx hg hz
         exact ⟨store_row rfl hp hx hz iRat (sL) (oL), fun w1 hF => ext_filled hT hF (Nat.le_trans EE.out.size hg)⟩
       · refine er_q ?vn59 ?hn59 ?kn59 ?gn59 ?_
         case hn59 => exact rfl
         case vn59 => exact (fun R => .bool p1)
         case kn59 => exact (fun R => rfl)
         case gn59 => exact gd_none rfl
         intro R s w' hT hs hw ha
         go_simp
     case end59 =>
      intro sI R G w60 hI
      have hS := hI.same
      have hTT := hI.holds
      have hz0 := EE.out.size
      have P4 := P4.sameE hS (fun h => h) (by simp)
      have P8 := P8.sameE hS (fun h => h) (by simp)
      have P10 := P10.sameE hS (fun h => h) (by simp)
      have P12 := P12.sameE hS (fun h => h) (by simp)
      have P14 := P14.sameE hS (fun h => h) (by simp)
      have P16 : Blk w60 (G 7) 27 L := (hI.fulls 8 (List.mem_range.2 (show 8 < 10 by decide)) 7 rfl).2.2
      have hmP16 := (hI.made 7 (List.mem_range.2 (show 7 < 10 by decide)) rfl).1
      have P16_lo : W.heap.size ≤ G 7 := Nat.le_trans hz0 hmP16
      have ngP4_16 : g0 ≠ G 7 := by omega
      have ngP8_16 : g0 + 1 ≠ G 7 := by omega
      have ngP10_16 : g10 ≠ G 7 := by omega
      have ngP12_16 : g12 ≠ G 7 := by omega
      have ngP14_16 : g14 ≠ G 7 := by omega
      have EE := hide (show Ext _ _ from hTT)
      clear hS hz0 hTT hI
      generalize hF : putE _ _ _ _ _ _ _ = FF
      have hF2 : FF = { tmps := #[.agg B, .int .i64 v, .int .i64 ep, .int .u64 (dt : Int), .pointer (some ⟨g0, 0, none⟩), undef, undef, undef, .pointer (some ⟨g0 + 1, 0, none⟩), .bool false, .pointer (some ⟨g10, 0, none⟩), .bool o1, .pointer (some ⟨g12, 0, none⟩), .bool o2, .pointer (some ⟨g14, 0, none⟩), .bool o3, .pointer (some ⟨G 7, 0, none⟩), .bool p1, undef, undef, .agg B, .bool true, .bool false, .bool false, .int .i64 ep, .bool false, .bool false, .bool false, .int .i64 ep, .bool false, .bool false, .bool false, .int .u64 (dt : Int), .bool false, .bool false, undef, .tuple #[.agg D, .bool o1], .int .i64 v, .agg V, .agg B, .tuple #[.agg D, .bool o1], .agg D, .bool o1, .tuple #[.agg Lo, .bool o2], .agg D, .int .i64 ep, .agg Ep, .tuple #[.agg Lo, .bool o2], .agg Lo, .bool o2, .tuple #[.agg Hi, .bool o3], .agg D, .int .i64 ep, .agg Ep, .tuple #[.agg Hi, .bool o3], .agg Hi, .bool o3, .tuple #[.agg L, .bool p1], .agg Lo, .int .u64 (dt : Int), .agg U, .tuple #[.agg L, .bool p1], .agg L, .bool p1, undef, undef, undef, undef, undef, undef, undef, undef, undef, undef], defers := [] } := by subst hF; kernel_rfl
      clear hF
      subst hF2
      generalize G 7 = g16 at *
      go_upto_region 7 with fail
      have P4_lt := P4.lt
      have P8_lt := P8.lt
      have P10_lt := P10.lt
      have P12_lt := P12.lt
      have P14_lt := P14.lt
      have P16_lt := P16.lt
      refine wp_ev [.q, .q, .q, .q, .q, .q, .q, .al, .st 7, .q] [0, 0, 0, 0, 0, 0, 0, 0, 0, 0] (fun R => [.agg Hi, .int .u64 (dt : Int), .agg U, .tuple #[.agg H, .bool p2], .tuple #[.agg H, .bool p2], .agg H, .bool p2, undef, undef, .bool p2]) (fun _ => (.cells zR 27 (0, 0))) (fun R _ => (.cells H 27 (0, 0))) (fun _ => 0) (XE W) (fun _ => False) (by kernel_rfl) (by kernel_rfl) (by kernel_rfl) (by kernel_rfl) rfl (fun _ => rfl) (fun _ h => h.elim) (fun _ _ h => h) (by simp) (by simp) (fun R R' => ⟨fun _ => rfl, fun _ => rfl, fun _ => rfl, fun _ => rfl, fun _ => rfl, fun _ => rfl, fun _ => rfl, fun _ => rfl, fun _ => rfl, fun _ => rfl, trivial⟩) (fun _ _ _ _ => rfl) xe_below (EE.out.trans (ext_drew _)) ?ops70 ?end70
      case ops70 =>
        refine ⟨?_, ?_, ?_, ?_, ?_, ?_, ?_, ?_, ?_, ?_, trivial⟩
        · refine er_q ?vn61 ?hn61 ?kn61 ?gn61 ?_
          case hn61 => exact rfl
          case vn61 => exact (fun R => .agg Hi)
          case kn61 => exact (fun R => rfl)
          case gn61 => exact gd_none rfl
          intro R s w' hT hs hw ha
          have L := ld_all (P14.sameE hw (fun h => h) (by simp)) uWide rfl iWide sHi
          generalize hA : putE _ _ _ _ _ _ _ = AA
          refine q_load rfl ?_ L
          subst hA
          kernel_rfl
        · refine er_q ?vn62 ?hn62 ?kn62 ?gn62 ?_
          case hn62 => exact rfl
          case vn62 => exact (fun R => .int .u64 (dt : Int))
          case kn62 => exact (fun R => rfl)
          case gn62 => exact gd_none rfl
          intro R s w' hT hs hw ha
          go_simp
        · refine er_q ?vn63 ?hn63 ?kn63 ?gn63 ?_
          case hn63 => exact rfl
          case vn63 => exact (fun R => .agg U)
          case kn63 => exact (fun R => rfl)
          case gn63 => exact gd_none rfl
          intro R s w' hT hs hw ha
          go_simp
          exact k9.out w'
        · refine er_q ?vn64 ?hn64 ?kn64 ?gn64 ?_
          case hn64 => exact rfl
          case vn64 => exact (fun R => .tuple #[.agg H, .bool p2])
          case kn64 => exact (fun R => rfl)
          case gn64 => exact gd_none rfl
          intro R s w' hT hs hw ha
          go_simp
          exact k11.out w'
        · refine er_q ?vn65 ?hn65 ?kn65 ?gn65 ?_
          case hn65 => exact rfl
          case vn65 => exact (fun R => .tuple #[.agg H, .bool p2])
          case kn65 => exact (fun R => rfl)
          case gn65 => exact gd_none rfl
          intro R s w' hT hs hw ha
          go_simp
        · refine er_q ?vn66 ?hn66 ?kn66 ?gn66 ?_
          case hn66 => exact rfl
          case vn66 => exact (fun R => .agg H)
          case kn66 => exact (fun R => rfl)
          case gn66 => exact gd_none rfl
          intro R s w' hT hs hw ha
          go_simp
        · refine er_q ?vn67 ?hn67 ?kn67 ?gn67 ?_
          case hn67 => exact rfl
          case vn67 => exact (fun R => .bool p2)
          case kn67 => exact (fun R => rfl)
          case gn67 => exact gd_none rfl
          intro R s w' hT hs hw ha
          go_simp
        · refine er_al ?zn68 ?hn68 ?kn68 ?gn68 ?_
          case zn68 => exact (.cells zR 27 (0, 0))
          case hn68 => exact rfl
          case kn68 => exact rfl
          case gn68 => exact gd_none rfl
          intro ρ w'
          go_simp
          exact ⟨rfl, rfl⟩
        · refine er_st (j := 7) (Ty := ?Tn69) (p := ?pn69) (x := ?xn69) ?fn69 ?zn69 ?vn69 ?hn69 ?on69 ?kn69 ?ln69 ?gn69 ?en69 ?_
          case hn69 => exact rfl
          case on69 => exact rfl
          case fn69 => exact (fun R => (.cells H 27 (0, 0)))
          case zn69 => exact (.cells zR 27 (0, 0))
          case vn69 => exact (fun R => .agg H)
          case kn69 => exact (fun R => rfl)
          case ln69 => exact rfl
          case gn69 => exact gd_none rfl
          case en69 =>
            intro R
            kernel_rfl
          intro R s ρ w g hT hs hp hx hg hz
          exact ⟨store_row rfl hp hx hz iRat (sH) (oH), fun w1 hF => ext_filled hT hF (Nat.le_trans EE.out.size hg)⟩
        · refine er_q ?vn70 ?hn70 ?kn70 ?gn70 ?_
          case hn70 => exact rfl
          case vn70 => exact (fun R => .bool p2)
          case kn70 => exact (fun R => rfl)
          case gn70 => exact gd_none rfl
          intro R s w' hT hs hw ha
          go_simp
      case end70 =>
       intro sI R G w71 hI
       have hS := hI.same
       have hTT := hI.holds
       have hz0 := EE.out.size
       have P4 := P4.sameE hS (fun h => h) (by simp)
       have P8 := P8.sameE hS (fun h => h) (by simp)
       have P10 := P10.sameE hS (fun h => h) (by simp)
       have P12 := P12.sameE hS (fun h => h) (by simp)
       have P14 := P14.sameE hS (fun h => h) (by simp)
       have P16 := P16.sameE hS (fun h => h) (by simp)
       have P18 : Blk w71 (G 7) 27 H := (hI.fulls 8 (List.mem_range.2 (show 8 < 10 by decide)) 7 rfl).2.2
       have hmP18 := (hI.made 7 (List.mem_range.2 (show 7 < 10 by decide)) rfl).1
       have P18_lo : W.heap.size ≤ G 7 := Nat.le_trans hz0 hmP18
       have ngP4_18 : g0 ≠ G 7 := by omega
       have ngP8_18 : g0 + 1 ≠ G 7 := by omega
       have ngP10_18 : g10 ≠ G 7 := by omega
       have ngP12_18 : g12 ≠ G 7 := by omega
       have ngP14_18 : g14 ≠ G 7 := by omega
       have ngP16_18 : g16 ≠ G 7 := by omega
       have EE := hide (show Ext _ _ from hTT)
       clear hS hz0 hTT hI
       generalize hF : putE _ _ _ _ _ _ _ = FF
       have hF2 : FF = { tmps := #[.agg B, .int .i64 v, .int .i64 ep, .int .u64 (dt : Int), .pointer (some ⟨g0, 0, none⟩), undef, undef, undef, .pointer (some ⟨g0 + 1, 0, none⟩), .bool false, .pointer (some ⟨g10, 0, none⟩), .bool o1, .pointer (some ⟨g12, 0, none⟩), .bool o2, .pointer (some ⟨g14, 0, none⟩), .bool o3, .pointer (some ⟨g16, 0, none⟩), .bool p1, .pointer (some ⟨G 7, 0, none⟩), .bool p2, .agg B, .bool true, .bool false, .bool false, .int .i64 ep, .bool false, .bool false, .bool false, .int .i64 ep, .bool false, .bool false, .bool false, .int .u64 (dt : Int), .bool false, .bool false, undef, .tuple #[.agg D, .bool o1], .int .i64 v, .agg V, .agg B, .tuple #[.agg D, .bool o1], .agg D, .bool o1, .tuple #[.agg Lo, .bool o2], .agg D, .int .i64 ep, .agg Ep, .tuple #[.agg Lo, .bool o2], .agg Lo, .bool o2, .tuple #[.agg Hi, .bool o3], .agg D, .int .i64 ep, .agg Ep, .tuple #[.agg Hi, .bool o3], .agg Hi, .bool o3, .tuple #[.agg L, .bool p1], .agg Lo, .int .u64 (dt : Int), .agg U, .tuple #[.agg L, .bool p1], .agg L, .bool p1, .tuple #[.agg H, .bool p2], .agg Hi, .int .u64 (dt : Int), .agg U, .tuple #[.agg H, .bool p2], .agg H, .bool p2, undef, undef, undef], defers := [] } := by subst hF; kernel_rfl
       clear hF
       subst hF2
       generalize G 7 = g18 at *
       go_upto_region 8 with fail
       have P4_lt := P4.lt
       have P8_lt := P8.lt
       have P10_lt := P10.lt
       have P12_lt := P12.lt
       have P14_lt := P14.lt
       have P16_lt := P16.lt
       have P18_lt := P18.lt
       refine wp_evs [.q, .q, .q, .so 0, .q] [0, 0, 0, 0, 0] (fun R => [.agg L, .agg H, .agg (coneC false L H), undef, .bool true]) (fun _ => (.cells #[] 0 (0, 0))) (fun R _ => (.cells (coneC false L H) 29 (0, 0))) (fun _ => g0 + 1) (XE W) (fun _ => False) (by kernel_rfl) (by kernel_rfl) (by kernel_rfl) rfl (fun _ => rfl) (fun _ h => h.elim) (fun _ _ h => h) (by intro c hc; simp at hc; (try subst hc); (try simp only); omega) (by intro c c' h1 h2 _; simp at h1 h2; omega) (fun R R' => ⟨fun _ => rfl, fun _ => rfl, fun _ => rfl, fun _ => rfl, fun _ => rfl, trivial⟩) (fun _ _ _ _ => rfl) xe_below EE.out ?ops76 ?end76
       case ops76 =>
         refine ⟨?_, ?_, ?_, ?_, ?_, trivial⟩
         · refine er_q ?vn72 ?hn72 ?kn72 ?gn72 ?_
           case hn72 => exact rfl
           case vn72 => exact (fun R => .agg L)
           case kn72 => exact (fun R => rfl)
           case gn72 => exact gd_none rfl
           intro R s w' hT hs hw ha
           have L := ld_all (P16.sameE hw (fun h => h) (by intro c hc; simp at hc; (try subst hc); (try simp only); omega)) uRat rfl iRat sL
           generalize hA : putE _ _ _ _ _ _ _ = AA
           refine q_load rfl ?_ L
           subst hA
           kernel_rfl
         · refine er_q ?vn73 ?hn73 ?kn73 ?gn73 ?_
           case hn73 => exact rfl
           case vn73 => exact (fun R => .agg H)
           case kn73 => exact (fun R => rfl)
           case gn73 => exact gd_none rfl
           intro R s w' hT hs hw ha
           have L := ld_all (P18.sameE hw (fun h => h) (by intro c hc; simp at hc; (try subst hc); (try simp only); omega)) uRat rfl iRat sH
           generalize hA : putE _ _ _ _ _ _ _ = AA
           refine q_load rfl ?_ L
           subst hA
           kernel_rfl
         · refine er_q ?vn74 ?hn74 ?kn74 ?gn74 ?_
           case hn74 => exact rfl
           case vn74 => exact (fun R => .agg (coneC false L H))
           case kn74 => exact (fun R => rfl)
           case gn74 => exact gd_none rfl
           intro R s w' hT hs hw ha
           generalize hA : putE _ _ _ _ _ _ _ = AA
           refine build_cone rL rH rfl ?_ ?_
           · subst hA; kernel_rfl
           · subst hA; kernel_rfl
         · refine er_so (c := 0) (Ty := ?Tn75) (p := ?pn75) (x := ?xn75) (g0 + 1) ?fn75 ?un75 ?vn75 ?hn75 ?on75 ?kn75 ?ln75 ?gn75 ?dn75 ?en75 ?_
           case hn75 => exact rfl
           case on75 => exact rfl
           case fn75 => exact (fun R => (.cells (coneC false L H) 29 (0, 0)))
           case un75 => exact (fun R => .pointer (some ⟨g0 + 1, 0, none⟩))
           case vn75 => exact (fun R => .agg (coneC false L H))
           case kn75 => exact (fun R => rfl)
           case ln75 => exact rfl
           case gn75 => exact gd_none rfl
           case dn75 =>
             intro R
             kernel_rfl
           case en75 =>
             intro R
             kernel_rfl
           intro R s ρ w hT hs hp hx hz
           refine ⟨store_rowN (g := (g0 + 1)) rfl hp hx (hz.trans P8) iCone (rfl) (sC) (oC), fun w1 hF => ext_filled hT hF P8_lo⟩
         · refine er_q ?vn76 ?hn76 ?kn76 ?gn76 ?_
           case hn76 => exact rfl
           case vn76 => exact (fun R => .bool true)
           case kn76 => exact (fun R => rfl)
           case gn76 => exact gd_none rfl
           intro R s w' hT hs hw ha
           go_simp
       case end76 =>
        intro sI R G w77 hI
        have hS := hI.same
        have hTT := hI.holds
        have hz0 := EE.out.size
        have P4 := P4.sameE hS (fun h => h) (by intro c hc; simp at hc; (try subst hc); (try simp only); omega)
        have P10 := P10.sameE hS (fun h => h) (by intro c hc; simp at hc; (try subst hc); (try simp only); omega)
        have P12 := P12.sameE hS (fun h => h) (by intro c hc; simp at hc; (try subst hc); (try simp only); omega)
        have P14 := P14.sameE hS (fun h => h) (by intro c hc; simp at hc; (try subst hc); (try simp only); omega)
        have P16 := P16.sameE hS (fun h => h) (by intro c hc; simp at hc; (try subst hc); (try simp only); omega)
        have P18 := P18.sameE hS (fun h => h) (by intro c hc; simp at hc; (try subst hc); (try simp only); omega)
        have P8 : Blk w77 (g0 + 1) 29 (coneC false L H) := hI.olds' 3 (List.mem_range.2 (show 3 < 5 by decide)) 0 rfl
        have EE := hide (show Ext _ _ from hTT)
        clear hS hz0 hTT hI
        generalize hF : putE _ _ _ _ _ _ _ = FF
        have hF2 : FF = { tmps := #[.agg B, .int .i64 v, .int .i64 ep, .int .u64 (dt : Int), .pointer (some ⟨g0, 0, none⟩), undef, undef, undef, .pointer (some ⟨g0 + 1, 0, none⟩), .bool true, .pointer (some ⟨g10, 0, none⟩), .bool o1, .pointer (some ⟨g12, 0, none⟩), .bool o2, .pointer (some ⟨g14, 0, none⟩), .bool o3, .pointer (some ⟨g16, 0, none⟩), .bool p1, .pointer (some ⟨g18, 0, none⟩), .bool p2, .agg B, .bool true, .bool false, .bool false, .int .i64 ep, .bool false, .bool false, .bool false, .int .i64 ep, .bool false, .bool false, .bool false, .int .u64 (dt : Int), .bool false, .bool false, undef, .tuple #[.agg D, .bool o1], .int .i64 v, .agg V, .agg B, .tuple #[.agg D, .bool o1], .agg D, .bool o1, .tuple #[.agg Lo, .bool o2], .agg D, .int .i64 ep, .agg Ep, .tuple #[.agg Lo, .bool o2], .agg Lo, .bool o2, .tuple #[.agg Hi, .bool o3], .agg D, .int .i64 ep, .agg Ep, .tuple #[.agg Hi, .bool o3], .agg Hi, .bool o3, .tuple #[.agg L, .bool p1], .agg Lo, .int .u64 (dt : Int), .agg U, .tuple #[.agg L, .bool p1], .agg L, .bool p1, .tuple #[.agg H, .bool p2], .agg Hi, .int .u64 (dt : Int), .agg U, .tuple #[.agg H, .bool p2], .agg H, .bool p2, .agg L, .agg H, .agg (coneC false L H)], defers := [] } := by subst hF; kernel_rfl
        clear hF
        subst hF2
        go_wp2_with fail
        exact bodyPost_ret (res_row2 (p := 8) (u := 9) (ty := 29) rfl _ _ _ 29 (coneC false L H) _ rfl P8 uCone rfl (by rw [iCone, sC])) rfl ⟨by kernel_rfl, EE.out⟩
end
section
open Go Go.RowKit Go.Sort
attribute [local go_sem] qUpon eUpon putE slE
set_option maxHeartbeats 3200000 in
set_option maxRecDepth 100000 in
theorem pc_base4 (X : Array Value) (b c d : Nat) (W : World) (sX : X.size = 5) (oX : X.all (·.oneCell') = true) (f2 : X[2]? = some (.int .u64 (b : Int))) (f3 : X[3]? = some (.int .u64 (c : Int))) (f4 : X[4]? = some (.int .u64 (d : Int))) (kv : Hid (∀ w, Calls Tryz.prog 57 #[.agg X] w (Ret (.bool true) w))) (hd : d = 0) (hc : c = 0) :
   Calls Tryz.prog 32 #[.agg X] W (Ret (.bool (decide ((b : Int) < 4))) W) := by
 have ed : (((d : Nat) : Int) == 0) = true := by rw [beq_iff_eq]; omega
 have ed' : decide (d = 0) = true := decide_eq_true hd
 clear hd
 have ec : (((c : Nat) : Int) == 0) = true := by rw [beq_iff_eq]; omega
 have ec' : decide (c = 0) = true := decide_eq_true hc
 clear hc
 have P1 := Blk.new W 25 X
 have EE := hide (ext_alloc W (.cells X 25))
 obtain ⟨W1, hW1⟩ : ∃ W1, (W.alloc (.cells X 25)) = W1 := ⟨_, rfl⟩
 obtain ⟨g0, hg⟩ : ∃ g, W.heap.size = g := ⟨_, rfl⟩
 rw [hW1] at P1 EE
 rw [hg] at P1
 have P1_lo : W.heap.size ≤ g0 := by omega
 have HW := hide hW1
 have Hg := hide hg
 clear hW1 hg
 go_enter Tryz.func32, Tryz.ntmps32
 go_upto_region 1 with fail
 rw [HW.out, Hg.out]
 clear HW Hg
 have P1_lt := P1.lt
 refine wp_evs [.q, .q, .q, .q, .q, .q, .q, .q, .q, .q, .q, .q, .q, .q, .q, .q, .q, .q, .q, .q, .q] [0, 0, 0, 0, 0, 0, 0, 0, 0, 0, 0, 0, 0, 0, 0, 0, 0, 0, 0, 0, 0] (fun R => [.agg X, .bool true, .bool true, .pointer (some ⟨g0, 1, none⟩), .pointer (some ⟨g0, 4, none⟩), .int .u64 (d : Int), .bool true, .bool true, .bool true, .pointer (some ⟨g0, 1, none⟩), .pointer (some ⟨g0, 3, none⟩), .int .u64 (c : Int), .bool true, .bool true, .bool true, .pointer (some ⟨g0, 1, none⟩), .pointer (some ⟨g0, 2, none⟩), .int .u64 (b : Int), .bool (decide ((b : Int) < 4)), .bool (decide ((b : Int) < 4)), .bool (decide ((b : Int) < 4))]) (fun _ => (.cells #[] 0 (0, 0))) (fun R _ => (.cells #[] 0 (0, 0))) (fun _ => 0) (XE W) (fun _ => False) (by kernel_rfl) (by kernel_rfl) (by kernel_rfl) rfl (fun _ => rfl) (fun _ h => h.elim) (fun _ _ h => h) (by simp) (by simp) (fun R R' => ⟨fun _ => rfl, fun _ => rfl, fun _ => rfl, fun _ => rfl, fun _ => rfl, fun _ => rfl, fun _ => rfl, fun _ => rfl, fun _ => rfl, fun _ => rfl, fun _ => rfl, fun _ => rfl, fun _ => rfl, fun _ => rfl, fun _ => rfl, fun _ => rfl, fun _ => rfl, fun _ => rfl, fun _ => rfl, fun _ => rfl, fun _ => rfl, trivial⟩) (fun _ _ _ _ => rfl) xe_below EE.out ?ops21 ?end21
 case ops21 =>
   refine ⟨?_, ?_, ?_, ?_, ?_, ?_, ?_, ?_, ?_, ?_, ?_, ?_, ?_, ?_, ?_, ?_, ?_, ?_, ?_, ?_, ?_, trivial⟩
   · refine er_q ?vn1 ?hn1 ?kn1 ?gn1 ?_
     case hn1 => exact rfl
     case vn1 => exact (fun R => .agg X)
     case kn1 => exact (fun R => rfl)
     case gn1 => exact gd_none rfl
     intro R s w' hT hs hw ha
     have L := ld_all (P1.sameE hw (fun h => h) (by simp)) uWide rfl iWide sX
     generalize hA : putE _ _ _ _ _ _ _ = AA
     refine q_load rfl ?_ L
     subst hA
     kernel_rfl
   · refine er_q ?vn2 ?hn2 ?kn2 ?gn2 ?_
     case hn2 => exact rfl
     case vn2 => exact (fun R => .bool true)
     case kn2 => exact (fun R => rfl)
     case gn2 => exact gd_none rfl
     intro R s w' hT hs hw ha
     go_simp
     exact kv.out w'
   · refine er_q ?vn3 ?hn3 ?kn3 ?gn3 ?_
     case hn3 => exact rfl
     case vn3 => exact (fun R => .bool true)
     case kn3 => exact (fun R => rfl)
     case gn3 => exact gd_none rfl
     intro R s w' hT hs hw ha
     go_simp
   · refine er_q ?vn4 ?hn4 ?kn4 ?gn4 ?_
     case hn4 => exact rfl
     case vn4 => exact (fun R => .pointer (some ⟨g0, 1, none⟩))
     case kn4 => exact (fun R => rfl)
     case gn4 => (refine gd_some rfl ?_; intro R; kernel_rfl)
     intro R s w' hT hs hw ha
     go_simp
   · refine er_q ?vn5 ?hn5 ?kn5 ?gn5 ?_
     case hn5 => exact rfl
     case vn5 => exact (fun R => .pointer (some ⟨g0, 4, none⟩))
     case kn5 => exact (fun R => rfl)
     case gn5 => (refine gd_some rfl ?_; intro R; kernel_rfl)
     intro R s w' hT hs hw ha
     go_simp
   · refine er_q ?vn6 ?hn6 ?kn6 ?gn6 ?_
     case hn6 => exact rfl
     case vn6 => exact (fun R => .int .u64 (d : Int))
     case kn6 => exact (fun R => rfl)
     case gn6 => (refine gd_some rfl ?_; intro R; kernel_rfl)
     intro R s w' hT hs hw ha
     have cc := ((P1.sameE hw (fun h => h) (by simp) : Blk w' g0 _ X).cell 4).trans (f4)
     go_simp
   · refine er_q ?vn7 ?hn7 ?kn7 ?gn7 ?_
     case hn7 => exact rfl
     case vn7 => exact (fun R => .bool true)
     case kn7 => exact (fun R => rfl)
     case gn7 => (refine gd_some rfl ?_; intro R; kernel_rfl)
     intro R s w' hT hs hw ha
     go_simp
   · refine er_q ?vn8 ?hn8 ?kn8 ?gn8 ?_
     case hn8 => exact rfl
     case vn8 => exact (fun R => .bool true)
     case kn8 => exact (fun R => rfl)
     case gn8 => exact gd_none rfl
     intro R s w' hT hs hw ha
     go_simp
   · refine er_q ?vn9 ?hn9 ?kn9 ?gn9 ?_
     case hn9 => exact rfl
     case vn9 => exact (fun R => .bool true)
     case kn9 => exact (fun R => rfl)
     case gn9 => exact gd_none rfl
     intro R s w' hT hs hw ha
     go_simp
   · refine er_q ?vn10 ?hn10 ?kn10 ?gn10 ?_
     case hn10 => exact rfl
     case vn10 => exact (fun R => .pointer (some ⟨g0, 1, none⟩))
     case kn10 => exact (fun R => rfl)
     case gn10 => (refine gd_some rfl ?_; intro R; kernel_rfl)
     intro R s w' hT hs hw ha
     go_simp
   · refine er_q ?vn11 ?hn11 ?kn11 ?gn11 ?_
     case hn11 => exact rfl
     case vn11 => exact (fun R => .pointer (some ⟨g0, 3, none⟩))
     case kn11 => exact (fun R => rfl)
     case gn11 => (refine gd_some rfl ?_; intro R; kernel_rfl)
     intro R s w' hT hs hw ha
     go_simp
   · refine er_q ?vn12 ?hn12 ?kn12 ?gn12 ?_
     case hn12 => exact rfl
     case vn12 => exact (fun R => .int .u64 (c : Int))
     case kn12 => exact (fun R => rfl)
     case gn12 => (refine gd_some rfl ?_; intro R; kernel_rfl)
     intro R s w' hT hs hw ha
     have cc := ((P1.sameE hw (fun h => h) (by simp) : Blk w' g0 _ X).cell 3).trans (f3)
     go_simp
   · refine er_q ?vn13 ?hn13 ?kn13 ?gn13 ?_
     case hn13 => exact rfl
     case vn13 => exact (fun R => .bool true)
     case kn13 => exact (fun R => rfl)
     case gn13 => (refine gd_some rfl ?_; intro R; kernel_rfl)
     intro R s w' hT hs hw ha
     go_simp
   · refine er_q ?vn14 ?hn14 ?kn14 ?gn14 ?_
     case hn14 => exact rfl
     case vn14 => exact (fun R => .bool true)
     case kn14 => exact (fun R => rfl)
     case gn14 => exact gd_none rfl
     intro R s w' hT hs hw ha
     go_simp
   · refine er_q ?vn15 ?hn15 ?kn15 ?gn15 ?_
     case hn15 => exact rfl
     case vn15 => exact (fun R => .bool true)
     case kn15 => exact (fun R => rfl)
     case gn15 => exact gd_none rfl
     intro R s w' hT hs hw ha
     go_simp
   · refine er_q ?vn16 ?hn16 ?kn16 ?gn16 ?_
     case hn16 => exact rfl
     case vn16 => exact (fun R => .pointer (some ⟨g0, 1, none⟩))
     case kn16 => exact (fun R => rfl)
     case gn16 => (refine gd_some rfl ?_; intro R; kernel_rfl)
     intro R s w' hT hs hw ha
     go_simp
   · refine er_q ?vn17 ?hn17 ?kn17 ?gn17 ?_
     case hn17 => exact rfl
     case vn17 => exact (fun R => .pointer (some ⟨g0, 2, none⟩))
     case kn17 => exact (fun R => rfl)
     case gn17 => (refine gd_some rfl ?_; intro R; kernel_rfl)
     intro R s w' hT hs hw ha
     go_simp
   · refine er_q ?vn18 ?hn18 ?kn18 ?gn18 ?_
     case hn18 => exact rfl
     case vn18 => exact (fun R => .int .u64 (b : Int))
     case kn18 => exact (fun R => rfl)
     case gn18 => (refine gd_some rfl ?_; intro R; kernel_rfl)
     intro R s w' hT hs hw ha
     have cc := ((P1.sameE hw (fun h => h) (by simp) : Blk w' g0 _ X).cell 2).trans (f2)
     go_simp
   · refine er_q ?vn19 ?hn19 ?kn19 ?gn19 ?_
     case hn19 => exact rfl
     case vn19 => exact (fun R => .bool (decide ((b : Int) < 4)))
     case kn19 => exact (fun R => rfl)
     case gn19 => (refine gd_some rfl ?_; intro R; kernel_rfl)
     intro R s w' hT hs hw ha
     go_simp
   · refine er_q ?vn20 ?hn20 ?kn20 ?gn20 ?_
     case hn20 => exact rfl
     case vn20 => exact (fun R => .bool (decide ((b : Int) < 4)))
     case kn20 => exact (fun R => rfl)
     case gn20 => exact gd_none rfl
     intro R s w' hT hs hw ha
     go_simp
   · refine er_q ?vn21 ?hn21 ?kn21 ?gn21 ?_
     case hn21 => exact rfl
     case vn21 => exact (fun R => .bool (decide ((b : Int) < 4)))
     case kn21 => exact (fun R => rfl)
     case gn21 => exact gd_none rfl
     intro R s w' hT hs hw ha
     go_simp
 case end21 =>
  intro sI R G w22 hI
  have hS := hI.same
  have hTT := hI.holds
  have hz0 := EE.out.size
  have P1 := P1.sameE hS (fun h => h) (by simp)
  have EE := hide (show Ext _ _ from hTT)
  clear hS hz0 hTT hI
  generalize hF : putE _ _ _ _ _ _ _ = FF
  have hF2 : FF = { tmps := #[.agg X, .pointer (some ⟨g0, 0, none⟩), .bool (decide ((b : Int) < 4)), .agg X, .bool true, .bool true, .pointer (some ⟨g0, 1, none⟩), .pointer (some ⟨g0, 4, none⟩), .int .u64 (d : Int), .bool true, .bool true, .bool true, .pointer (some ⟨g0, 1, none⟩), .pointer (some ⟨g0, 3, none⟩), .int .u64 (c : Int), .bool true, .bool true, .bool true, .pointer (some ⟨g0, 1, none⟩), .pointer (some ⟨g0, 2, none⟩), .int .u64 (b : Int), .bool (decide ((b : Int) < 4)), .bool (decide ((b : Int) < 4))], defers := [] } := by subst hF; kernel_rfl
  clear hF
  subst hF2
  go_wp2_with fail
  go_ret
  exact ⟨rfl, EE.out⟩
end
section
open Go Go.RowKit
theorem WideRet.ext {z : Int} {w W : World} {e : Ending} {w' : World} (h : WideRet z W e w') (k : Ext w W) : WideRet z w e w' := by
 obtain ⟨s, a, b, c, d, o, h1, h2, h3, h4⟩ := h
 exact ⟨s, a, b, c, d, o, h1, h2, h3, k.trans h4⟩
set_option maxHeartbeats 4000000 in
theorem p_wsub (s t : Bool) (a b c d e f g h : Nat) (x y : Int) (w : World) (hx : IsW s a b c d x) (hy : IsW t e f g h y) :
   Calls Tryz.prog 33 #[.agg #[.bool s, .int .u64 (a : Int), .int .u64 (b : Int), .int .u64 (c : Int), .int .u64 (d : Int)], .agg #[.bool t, .int .u64 (e : Int), .int .u64 (f : Int), .int .u64 (g : Int), .int .u64 (h : Int)]] w (WideRet (x - y) w) := by
 obtain ⟨W, hW⟩ : ∃ W, W = (((w.alloc (.cells #[.bool s, .int .u64 (a : Int), .int .u64 (b : Int), .int .u64 (c : Int), .int .u64 (d : Int)] 25)).alloc (.cells #[.bool t, .int .u64 (e : Int), .int .u64 (f : Int), .int .u64 (g : Int), .int .u64 (h : Int)] 25)).alloc (.cells #[.bool false, .int .u64 0, .int .u64 0, .int .u64 0, .int .u64 0] 25)) := ⟨_, rfl⟩
 have H3 := three_boxes w (.cells #[.bool s, .int .u64 (a : Int), .int .u64 (b : Int), .int .u64 (c : Int), .int .u64 (d : Int)] 25) (.cells #[.bool t, .int .u64 (e : Int), .int .u64 (f : Int), .int .u64 (g : Int), .int .u64 (h : Int)] 25) (.cells #[.bool false, .int .u64 0, .int .u64 0, .int .u64 0, .int .u64 0] 25)
 rw [← hW] at H3
 have B0 : Box W w.heap.size s a b c d := H3.1
 have B1 : Box W (w.heap.size + 1) t e f g h := H3.2.1
 have B2 : Box W (w.heap.size + 1 + 1) false 0 0 0 0 := H3.2.2
 have E0 : Ext w W := by rw [hW]; exact ((ext_alloc _ _).trans (ext_alloc _ _)).trans (ext_alloc _ _)
 have HW := hide hW
 clear hW H3
 have HZ : Hid (x + -y = x - y) := by unfold Hid; omega
 obtain ⟨c0, c1, c2, c3, c4, f0, f1, f2, f3, f4⟩ := five_cells B0
 obtain ⟨d0, d1, d2, d3, d4, g0, g1, g2, g3, g4⟩ := five_cells B1
 go_enter Tryz.func33, Tryz.ntmps33
 go_upto_region 1 with fail
 rw [← HW.out]
 clear HW
 go_region_with (first
   | (go_at_call 58; refine (p_neg t e f g h y _ hy).mono ?_; rintro e' w' ⟨t', e1, f1', g1', h1', rfl, hC, hE⟩; have R0 := B0.drew.ext hE; have R2 := B2.drew.ext hE; obtain ⟨c0, c1, c2, c3, c4, f0, f1, f2, f3, f4⟩ := five_cells R0; have E1 := (E0.trans (ext_drew _)).trans hE; clear hE)
   | (go_at_call 35; refine (p_wadd s t' a b c d e1 f1' g1' h1' x (-y) _ hx hC.1).mono ?_; rintro e' w' ⟨s', a', b', c', d', o, rfl, ho, hK, hE⟩; rw [HZ.out] at ho hK; have Ho := hide ho; clear ho; have E2 := E1.trans hE; have R3 := R2.ext hE; obtain ⟨i0, i1, i2, i3, i4, j0, j1, j2, j3, j4⟩ := five_cells R3; clear hE))
 all_goals go_wp2_with fail
 all_goals exact bodyPost_ret (v := .tuple #[.agg #[.bool s', .int .u64 (a' : Int), .int .u64 (b' : Int), .int .u64 (c' : Int), .int .u64 (d' : Int)], .bool o]) (by simp [results, Tryz.results33, go_sem, i0, i1, i2, i3, i4]) rfl ⟨s', a', b', c', d', o, rfl, Ho.out, hK, ext_five E2 (by omega) _ _ _ _ _⟩
end
section
open Go Go.RowKit Go.Sort
theorem base10 (w : World) : Calls Tryz.prog 32 #[.agg (wC 10)] w (Ret (.bool true) w) :=
 pc_base4 (wC 10) (l1 10) (l2 10) (l3 10) w rfl (wC_one _) rfl rfl rfl (hide (fun w => c_valid (by unfold F256; omega) w)) (by decide) (by decide)
theorem c_sub' {x y z : Int} (hx : F256 x) (hy : F256 y) (e : x - y = z) (hz : F256 z) (w : World) : Calls Tryz.prog 33 #[.agg #[.bool (sg x), .int .u64 (l0 x : Int), .int .u64 (l1 x : Int), .int .u64 (l2 x : Int), .int .u64 (l3 x : Int)], .agg #[.bool (sg y), .int .u64 (l0 y : Int), .int .u64 (l1 y : Int), .int .u64 (l2 y : Int), .int .u64 (l3 y : Int)]] w (Ret (.tuple #[.agg #[.bool (sg z), .int .u64 (l0 z : Int), .int .u64 (l1 z : Int), .int .u64 (l2 z : Int), .int .u64 (l3 z : Int)], .bool true]) w) :=
 (p_wsub _ _ _ _ _ _ _ _ _ _ x y w (isC_of hx).1 (isC_of hy).1).mono fun _ _ h => ret_pair (by rw [e] at h; exact h) hz
theorem l_known13q (W : World) : Calls Tryz.prog 6 #[] W (Ret (.bool true) W) := by
 have hc : okC (.cl (2, 1) (3, 1)) := by unfold okC okF leF; decide +kernel
 have hr : thruC 10 20 2 (4 : Nat) = .cl (2, 1) (3, 1) := by
   have a : redF (20 - 10 - 2) ((4 : Nat) : Int) = (2, 1) := by decide +kernel
   have b : redF (20 - 10 + 2) ((4 : Nat) : Int) = (3, 1) := by decide +kernel
   unfold thruC
   rw [a, b]
 have hg : ThrGood 10 2 4 := by decide
 have h3 : okF (3, 1) := by unfold okF; decide +kernel
 have h4 : okF (4, 1) := by unfold okF; decide +kernel
 have P := p_all
 have hS := fun w => pc_start w
 have hok : okF (redF (20 - 10 - 2) ((4 : Nat) : Int)) ∧ okF (redF (20 - 10 + 2) ((4 : Nat) : Int)) := by
   have h := hc
   rw [← hr] at h
   exact ⟨h.1, h.2.1⟩
 have kt := fun w => pc_through (wC 10) (wC 20) (wC (20 - 10)) (wC 2) (wC (20 - 10 - 2)) (wC (20 - 10 + 2)) (wC ((4 : Nat) : Int)) (frC (redF (20 - 10 - 2) ((4 : Nat) : Int))) (frC (redF (20 - 10 + 2) ((4 : Nat) : Int))) 20 2 4 true true true true true w rfl (wC_one _) rfl (wC_one _) rfl (wC_one _) rfl (wC_one _) (frC_rc _) (frC_rc _) (by omega) (by omega) (by omega) (by omega)
   (hide (fun w => base10 w)) (hide (fun w => c_ofi (by omega) (by omega) w)) (hide (fun w => c_sub' (by unfold F256; omega) (by unfold F256; omega) rfl (by unfold F256; omega) w)) (hide (fun w => c_ofi (by omega) (by omega) w)) (hide (fun w => c_sub' (by unfold F256; omega) (by unfold F256; omega) rfl (by unfold F256; omega) w)) (hide (fun w => c_add (by unfold F256; omega) (by unfold F256; omega) rfl (by unfold F256; omega) w)) (hide (fun w => c_ofu (by omega) w)) (hide (fun w => g_make (by unfold F256; omega) (by unfold F256; omega) (by omega) (redF_mkB hok.1) rfl rfl w)) (hide (fun w => g_make (by unfold F256; omega) (by unfold F256; omega) (by omega) (redF_mkB hok.2) rfl rfl w))
 change ∀ w, Calls _ _ _ w (Ret (.tuple #[.agg (cnC (thruC 10 20 2 (4 : Nat))), .bool true]) w) at kt
 rw [hr] at kt
 obtain ⟨s, hs, ks⟩ := P.h _ hc
 obtain rfl := choose_uniq hc hs best_known
 have ka := P.c _ (3, 1) hc h3
 have kb := P.c _ (4, 1) hc h4
 rw [show decide (inC (.cl (2, 1) (3, 1)) (3, 1)) = true from by decide] at ka
 rw [show decide (inC (.cl (2, 1) (3, 1)) (4, 1)) = false from by decide] at kb
 exact l_known13r (wC 10) (cnC (.cl (2, 1) (3, 1))) (frC (2, 1)) (frC (3, 1)) (frC (4, 1)) W (cnC_size _) (cnC_one _) (fun w => cnC_eq _ w) (fun w => eq_rat (frC_rc _) w) (hide (fun w => d_ofi (by omega) (by omega) w)) (hide kt) (hide hS) (hide (P.m _ .op hc trivial)) (hide ks) (hide (fun w => h_of (by omega) (by omega) w)) (hide (P.v _ hc)) (hide (fun w => h_of (by omega) (by omega) w)) (hide (fun w => h_of (by omega) (by omega) w)) (hide ka) (hide kb)
end
end Go.Proofs.YthlbkidgdngblaaGreat
