/- Part 2 of what these claims stand on: contracts of the program's and the reference's functions, and plain facts. Conditions: each states its own. -/
import Derived.Test.YthcnbpeeekkgkaaPrB1
import Derived.Laws.Tables
import Derived.Great.BuildSlice
import Derived.Deep.RegionLaw
import Derived.Laws.EntriesVeiled
import Derived.Deep.RegionHeld3
import Derived.RangeFuncNested
import Derived.RangeFuncBound
import Derived.RangeFuncCalls
import Derived.RangeFuncLeaves
import Derived.Shelf.Abstract
import Derived.Shelf.RegionOpen
import Derived.WalkKit
import Derived.OwnWalkIn
import Derived.TacticsInMore
import Derived.LoopNIn
import Derived.LoopIn
namespace Go.Proofs.Ythcnbpeeekkgkaa
set_option linter.unusedVariables false
set_option linter.unusedSimpArgs false
section
open Go Go.RowKit
theorem info_co : (Try.prog.info? 46).map (fun i => (i.zero, i.size, i.bytes)) = some (some (.agg #[.int .i64 0, .int .i64 0]), 2, 16) := by kernel_rfl
def OwnC (B : Nat) (w : World) (v : Value) (l : List (Int × Int)) : Prop := w.ownsRow B 46 2 v l.length (s8s l) ∧ IsS l
theorem OwnC.at_ {B : Nat} {w : World} {v : Value} {l : List (Int × Int)} (h : OwnC B w v l) : ∃ A cap, v = .slice A l.length cap ∧ l.length ≤ cap ∧ cap ≤ 9223372036854775807 ∧ SampsAt w A l := by
 rcases h.1.2 with ⟨rfl, h0⟩ | ⟨g, cap, cur, rfl, hg, hh, hnc, hcp, hcs, htake⟩
 · obtain rfl : l = [] := List.length_eq_zero_iff.1 h0
   exact ⟨none, 0, rfl, Nat.le_refl _, by omega, SampsAt.nil _ _⟩
 · unfold maxLen at hcp
   have e : ∀ j, (⟨g, 0, none⟩ : Addr).add j = ⟨g, 0 + j, none⟩ := fun j => by unfold Addr.add; split <;> simp_all
   refine ⟨_, cap, rfl, hnc, hcp, h.2, by omega, fun _ => ⟨g, 0, rfl, (Array.getElem?_eq_some_iff.1 hh).1, fun j hj => ?_⟩⟩
   have hs := s8s_get l j hj
   have h1 := h.1.cells (g := g) rfl _ _ hs.1
   have h2 := h.1.cells (g := g) rfl _ _ hs.2
   rw [e] at h1 h2
   exact ⟨h1, h2⟩
theorem OwnC.kept {B : Nat} {w w' : World} {v : Value} {l : List (Int × Int)} (h : OwnC B w v l) {row : Option Nat} (hg : w.grownBy w' row) (hne : v.ownBlock = none ∨ v.ownBlock ≠ row) : OwnC B w' v l := ⟨h.1.kept hg hne, h.2⟩
theorem OwnC.alloc {B : Nat} {w : World} {v : Value} {l : List (Int × Int)} (h : OwnC B w v l) (o : Obj) : OwnC B (w.alloc o) v l := ⟨h.1.alloc o, h.2⟩
theorem OwnC.drew {B : Nat} {w : World} {v : Value} {l : List (Int × Int)} (h : OwnC B w v l) : OwnC B w.drew v l := h
theorem OwnC.nil_ (B : Nat) (w : World) : OwnC B w (.slice none 0 0) [] := ⟨World.ownsRow_nil _ _ _ _, IsS.nil⟩
theorem OwnC.ext {B : Nat} {w w' : World} {v : Value} {l : List (Int × Int)} (h : OwnC B w v l) (e : Ext w w') : OwnC B w' v l := by
 refine ⟨?_, h.2⟩
 obtain ⟨h1, h2 | ⟨g, cap, cur, hv, hg, hh, r⟩⟩ := h.1
 · exact ⟨h1, Or.inl h2⟩
 · exact ⟨h1, Or.inr ⟨g, cap, cur, hv, hg, by rw [e.block g (Array.getElem?_eq_some_iff.1 hh).1]; exact hh, r⟩⟩
theorem OwnC.less {B B' : Nat} {w : World} {v : Value} {l : List (Int × Int)} (h : OwnC B w v l) (hB : B' ≤ B) : OwnC B' w v l := by
 refine ⟨?_, h.2⟩
 obtain ⟨h1, h2 | ⟨g, cap, cur, hv, hg, r⟩⟩ := h.1
 · exact ⟨h1, Or.inl h2⟩
 · exact ⟨h1, Or.inr ⟨g, cap, cur, hv, by omega, r⟩⟩
theorem OwnC.upd {B b : Nat} {w w' : World} {v : Value} {l : List (Int × Int)} (h : OwnC B w v l) (u : Upd b w w') (hb : b < B) : OwnC B w' v l := by
 refine ⟨?_, h.2⟩
 obtain ⟨h1, h2 | ⟨g, cap, cur, hv, hg, hh, r⟩⟩ := h.1
 · exact ⟨h1, Or.inl h2⟩
 · exact ⟨h1, Or.inr ⟨g, cap, cur, hv, hg, by rw [u.2.2.2.2 g (Array.getElem?_eq_some_iff.1 hh).1 (by omega)]; exact hh, r⟩⟩
theorem own_co {w : World} {A : Option Addr} {c cap B : Nat} {l : List (Int × Int)} (h : OwnC B w (.slice A c cap) l) : SampsAt w A l := by
 obtain ⟨A', cap', he, _, _, hw⟩ := h.at_
 cases he
 exact hw
theorem run_appendC (B : Nat) (w : World) (ty : TypeId) (v : Value) (l0 l : List (Int × Int)) (hown : OwnC B w v l0) (A : Option Addr) (m c : Nat) (hb : SampsAt w A l) (hm : l.length = m) (hlen : l0.length + l.length ≤ 8796093022208) (hbase : B ≤ w.heap.size) :
   ∃ v' w', (Builtin.append_ #[39, 39] ty #[v, .slice A m c]).run Try.prog w = .ok v' w' ∧ OwnC B w' v' (l0 ++ l) ∧ w.grownBy w' v.ownBlock ∧ (v'.ownBlock = v.ownBlock ∨ v'.ownBlock = some w.heap.size) := by
 subst hm
 obtain ⟨i0, hi0, hz0, hz1, hz2⟩ := info_parts2 info_co
 have h63 : l0.length + l.length ≤ maxLen := by unfold maxLen; omega
 rcases A with _ | ad
 · have h0 : l = [] := by
     rcases Nat.eq_zero_or_pos l.length with h | h
     · exact List.length_eq_zero_iff.1 h
     · obtain ⟨b, off, h', _⟩ := hb.2.2 h
       cases h'
   subst h0
   refine ⟨v, w, ?_, by rw [List.append_nil]; exact hown, World.grownBy.refl w _, .inl rfl⟩
   rcases hown.1.2 with ⟨rfl, _⟩ | ⟨g, cap, cur, rfl, _, _, hnc, _⟩
   · simp [Builtin.append_, run_underlying Try.underlying39, sizeOf, typeInfo, hi0, Builtin.lenOf, Builtin.firstCells]
   · simp [Builtin.append_, run_underlying Try.underlying39, sizeOf, typeInfo, hi0, Builtin.lenOf, Builtin.firstCells, hnc, storeCells]
 · have hcells : ∀ j u, (s8s l)[j]? = some u → w.cell? (ad.add j) = some u := by
     intro j u hu
     have hj : j < l.length * 2 := by
       rcases Nat.lt_or_ge j (s8s l).length with h | h
       · rwa [s8s_len] at h
       · rw [List.getElem?_eq_none h] at hu; cases hu
     obtain ⟨b, off, h', _, hc⟩ := hb.2.2 (by omega)
     obtain rfl : ad = ⟨b, off, none⟩ := Option.some.inj h'
     have hs := s8s_get l (j / 2) (by omega)
     have hcj := hc (j / 2) (by omega)
     rw [add_at]
     rcases Nat.mod_two_eq_zero_or_one j with h | h
     · have e : 2 * (j / 2) = j := by omega
       rw [e] at hs hcj
       rw [hcj.1, ← hu, hs.1]
     · have e : 2 * (j / 2) + 1 = j := by omega
       rw [e] at hs hcj
       rw [hcj.2, ← hu, hs.2]
   obtain ⟨v', w', hrun, h2, h3, _, h5⟩ := run_append_own_at (P := Try.prog) w B 39 ty 46 i0 _ 2 16 Try.underlying39 hi0 hz0 hz1 hz2 rfl (by omega) v l0.length (s8s l0) hown.1 ad l.length c (s8s l) (s8s_len l) hcells (s8s_one l) h63 (by omega) hbase
   refine ⟨v', w', hrun, ⟨?_, hown.2.app hb.1⟩, h3, h5⟩
   rw [s8s_app, List.length_append]
   exact h2
theorem wl_appendC {ops : Array Oper} {rest : List Oper} {o : Oper} {a : Act} {Q : Exit → Act → World → Prop} {w : World} (hgd : o.guard = none) (s x : Operand)
   (ho : o.op = .call { callee := .builtin .append, args := #[s, x], argTypes := #[39, 39] })
   (B : Nat) (v : Value) (l0 l : List (Int × Int)) (hs : a.eval s = v) (hown : OwnC B w v l0) (A : Option Addr) (m c : Nat) (hx : a.eval x = .slice A m c) (hb : SampsAt w A l) (hm : l.length = m) (hlen : l0.length + l.length ≤ 8796093022208) (hbase : B ≤ w.heap.size)
   (h : ∀ v' w', OwnC B w' v' (l0 ++ l) → w.grownBy w' v.ownBlock → (v'.ownBlock = v.ownBlock ∨ v'.ownBlock = some w.heap.size) → wpList Try.prog ops Q rest (a.put o.dst v') w') : wpList Try.prog ops Q (o :: rest) a w :=
 wpList_plain hgd fun _ hK => by
   obtain ⟨v', w', hrun, h2, h3, h4⟩ := run_appendC B w o.type v l0 l hown A m c hb hm hlen hbase
   unfold Oper.wp execOp
   simp only [ho, resolve, invoke, builtin, Sem.run_bind, Sem.run_pure, Result.andThen_ok, List.map_toArray, List.map_cons, List.map_nil, hs, hx, hrun]
   exact hK _ _ (h v' w' h2 h3 h4)
theorem below_grownC {W w w' : World} {v : Value} {l : List (Int × Int)} {B : Nat} (h : Below W.heap.size W w) (hB : W.heap.size ≤ B) (hown : OwnC B w v l) (hg : w.grownBy w' v.ownBlock) : Below W.heap.size W w' :=
 h.grown hg h.size (fun k hk => by
   obtain ⟨h1, h2⟩ := hown.1.lt k hk
   omega)
theorem idxC (b off N cap j : Nat) (h : j < N) (w : World) : (Instr.indexAt 39 (.slice (some ⟨b, off, none⟩) N cap) (.int .i64 (j : Int))).run Try.prog w = .ok (.pointer (some ⟨b, off + 2 * j, none⟩)) w := by
 have hz := Try.sizeOf46
 have he : Try.prog.elem 39 = 46 := by kernel_rfl
 have hr := run_indexAt_slice (P := Try.prog) (w := w) 39 ⟨b, off, none⟩ N cap .i64 (j : Int) (by kernel_rfl)
 rw [hr, if_pos ⟨by omega, by omega⟩, he, hz]
 simp [Result.andThen, add_at, Nat.mul_comm]
end
section
open Go Go.RowKit Go.Sort
attribute [local go_sem] qUpon eUpon putE slE
theorem res2 {fn : Func} {p u : Tmp} {ty : TypeId} (h : fn.results = #[.cell p ty, .tmp u]) (tmps : Array Value) (w : World) (g : Nat) (t : TypeId) (cs : Array Value) (d : TypeDesc)
   (hp : tmps.getD p undef = .pointer (some ⟨g, 0, none⟩)) (hg : Blk w g t cs)
   (hu : Try.prog.underlying ty = some d) (hd : (match (generalizing := false) d with | .struct _ | .array _ _ => true | _ => false) = true) (hi : (Try.prog.info? ty).map (·.size) = some cs.size) :
   (results fn tmps).run Try.prog w = .ok (.tuple #[.agg cs, tmps.getD u undef]) w := by
 have hp' : tmps[p]?.getD undef = .pointer (some ⟨g, 0, none⟩) := by simpa using hp
 simp [results, h, hp', asAddr, run_loadVar_row w g t ty cs (0, 0) d hg hu (by cases d <;> first | rfl | exact hd) hi, Sem.run_bind, Result.andThen]
theorem res3 {fn : Func} {p u u2 : Tmp} {ty : TypeId} (h : fn.results = #[.cell p ty, .tmp u, .tmp u2]) (tmps : Array Value) (w : World) (g : Nat) (t : TypeId) (cs : Array Value) (d : TypeDesc)
   (hp : tmps.getD p undef = .pointer (some ⟨g, 0, none⟩)) (hg : Blk w g t cs)
   (hu : Try.prog.underlying ty = some d) (hd : (match (generalizing := false) d with | .struct _ | .array _ _ => true | _ => false) = true) (hi : (Try.prog.info? ty).map (·.size) = some cs.size) :
   (results fn tmps).run Try.prog w = .ok (.tuple #[.agg cs, tmps.getD u undef, tmps.getD u2 undef]) w := by
 have hp' : tmps[p]?.getD undef = .pointer (some ⟨g, 0, none⟩) := by simpa using hp
 simp [results, h, hp', asAddr, run_loadVar_row w g t ty cs (0, 0) d hg hu (by cases d <;> first | rfl | exact hd) hi, Sem.run_bind, Result.andThen]
theorem q_buildM {a : Act} {o : Oper} {w : World} {t : TypeId} {parts : Array (Nat × Operand)} {vs : Array (Nat × Value)} {cells : Array Value} (ho : o.op = .build t parts) (hx : (parts.map fun (i, x) => (i, a.eval x)) = vs) (h : Try.prog.built t vs.toList = some cells) : qUpon Try.prog w (.agg cells) ((execOp a.eval o).run Try.prog w) := by
 have hr := run_build (P := Try.prog) w t vs cells h
 unfold execOp
 simp only [ho, hx, Sem.run_bind, hr, Result.andThen_ok, Sem.run_pure]
 exact ⟨rfl, rfl⟩
def miR (t c lo hi : Int) : Array Value := #[.int .i64 t, .int .i64 c, .int .i64 lo, .int .i64 hi]
def z4m : Array Value := #[.int .i64 0, .int .i64 0, .int .i64 0, .int .i64 0]
theorem miR_one (t c lo hi : Int) : (miR t c lo hi).all (·.oneCell') = true := by kernel_rfl
theorem z4m_one : z4m.all (·.oneCell') = true := by kernel_rfl
theorem b_mi0 : Try.prog.built 23 [] = some z4m := by kernel_rfl
theorem b_miT (e : Int) : Try.prog.built 23 [(0, .int .i64 e)] = some (miR e 0 0 0) := by kernel_rfl
theorem b_mi4 (t c lo hi : Int) : Try.prog.built 23 [(0, .int .i64 t), (1, .int .i64 c), (2, .int .i64 lo), (3, .int .i64 hi)] = some (miR t c lo hi) := by kernel_rfl
def CoGet (l : List (Int × Int)) (W : World) (e : Ending) (w' : World) : Prop := ∃ A c, e = .returned (.slice A l.length c) ∧ OwnC W.heap.size w' (.slice A l.length c) l ∧ Ext W w'
def endL (c lo hi : Int) : List (Int × Int) := if c = 0 then [] else [(c, (lo + hi) / 2)]
def CoFin (l : List (Int × Int)) (er : Nat) (W : World) (e : Ending) (w' : World) : Prop := ∃ A c, e = .returned (.tuple #[.slice A l.length c, .int .i64 (er : Int)]) ∧ OwnC W.heap.size w' (.slice A l.length c) l ∧ Ext W w'
def CoStep (t c lo hi : Int) (l : List (Int × Int)) (er : Nat) (W : World) (e : Ending) (w' : World) : Prop := ∃ A k, e = .returned (.tuple #[.agg (miR t c lo hi), .slice A l.length k, .int .i64 (er : Int)]) ∧ OwnC W.heap.size w' (.slice A l.length k) l ∧ Ext W w'
set_option maxHeartbeats 3200000 in
set_option maxRecDepth 100000 in
theorem p_startM (e : Int) (W : World) (kt : Hid (∀ w, Calls Try.prog 27 #[.int .i64 e] w (Ret (.bool true) w))) : Calls Try.prog 10 #[.int .i64 e] W (Ret (.tuple #[.agg (miR e 0 0 0), .int .i64 0]) W) := by
 have P2 := Blk.new W 23 z4m
 have EE := hide (ext_alloc W (.cells z4m 23))
 obtain ⟨W1, hW1⟩ : ∃ W1, (W.alloc (.cells z4m 23)) = W1 := ⟨_, rfl⟩
 obtain ⟨g0, hg⟩ : ∃ g, W.heap.size = g := ⟨_, rfl⟩
 rw [hW1] at P2 EE
 rw [hg] at P2
 have P2_lo : W.heap.size ≤ g0 := by omega
 have HW := hide hW1
 have Hg := hide hg
 clear hW1 hg
 go_enter Try.func10, Try.ntmps10
 go_upto_region 1 with fail
 unfold z4m at HW
 rw [HW.out, Hg.out]
 clear HW Hg
 refine wp_region_reads ?_
 repeat (first | go_big_quiet_step (first | with_reducible exact quiet_ret (kt.out _)) | quiet_step (first | with_reducible exact quiet_ret (kt.out _)))
 refine wpQuiet_nil ?_
 intro _ hw'
 obtain ⟨⟨dq, osq⟩, hw''⟩ := hw'
 subst hw''
 replace P2 := (P2).ext (ext_regrown W1 dq osq)
 replace EE := hide (EE.out.trans (ext_regrown W1 dq osq))
 obtain ⟨w2, hzq1⟩ : ∃ w, grow (redrawn W1 dq) osq = w := ⟨_, rfl⟩
 rw [hzq1] at EE P2 ⊢
 clear hzq1
 go_upto_region 3 with fail
 have P2_lt := P2.lt
 refine wp_evs [.q, .q, .so 0, .q] [0, 0, 0, 0] (fun R => [.int .i64 e, .agg (miR e 0 0 0), undef, .int .i64 0]) (fun _ => (.cells #[] 0 (0, 0))) (fun R _ => (.cells (miR e 0 0 0) 23 (0, 0))) (fun _ => g0) (XE W) (fun _ => False) (by kernel_rfl) (by kernel_rfl) (by kernel_rfl) rfl (fun _ => rfl) (fun _ h => h.elim) (fun _ _ h => h) (by intro c hc; simp at hc; (try subst hc); (try simp only); omega) (by intro c c' h1 h2 _; simp at h1 h2; omega) (fun R R' => ⟨fun _ => rfl, fun _ => rfl, fun _ => rfl, fun _ => rfl, trivial⟩) (fun _ _ _ _ => rfl) xe_below EE.out ?ops6 ?end6
 case ops6 =>
   refine ⟨?_, ?_, ?_, ?_, trivial⟩
   · refine er_q ?vn3 ?hn3 ?kn3 ?gn3 ?_
     case hn3 => exact rfl
     case vn3 => exact (fun R => .int .i64 e)
     case kn3 => exact (fun R => rfl)
     case gn3 => exact gd_none rfl
     intro R s w' hT hs hw ha
     go_simp
   · refine er_q ?vn4 ?hn4 ?kn4 ?gn4 ?_
     case hn4 => exact rfl
     case vn4 => exact (fun R => .agg (miR e 0 0 0))
     case kn4 => exact (fun R => rfl)
     case gn4 => exact gd_none rfl
     intro R s w' hT hs hw ha
     generalize hA : putE _ _ _ _ _ _ _ = AA
     refine q_buildM (vs := #[(0, .int .i64 e)]) rfl ?_ (b_miT e)
     subst hA
     kernel_rfl
   · refine er_so (c := 0) (Ty := ?Tn5) (p := ?pn5) (x := ?xn5) g0 ?fn5 ?un5 ?vn5 ?hn5 ?on5 ?kn5 ?ln5 ?gn5 ?dn5 ?en5 ?_
     case hn5 => exact rfl
     case on5 => exact rfl
     case fn5 => exact (fun R => (.cells (miR e 0 0 0) 23 (0, 0)))
     case un5 => exact (fun R => .pointer (some ⟨g0, 0, none⟩))
     case vn5 => exact (fun R => .agg (miR e 0 0 0))
     case kn5 => exact (fun R => rfl)
     case ln5 => exact rfl
     case gn5 => exact gd_none rfl
     case dn5 =>
       intro R
       kernel_rfl
     case en5 =>
       intro R
       kernel_rfl
     intro R s ρ w hT hs hp hx hz
     refine ⟨store_rowN (g := g0) rfl hp hx (hz.trans P2) iMid (rfl) (rfl) (miR_one _ _ _ _), fun w1 hF => ext_filled hT hF P2_lo⟩
   · refine er_q ?vn6 ?hn6 ?kn6 ?gn6 ?_
     case hn6 => exact rfl
     case vn6 => exact (fun R => .int .i64 0)
     case kn6 => exact (fun R => rfl)
     case gn6 => exact gd_none rfl
     intro R s w' hT hs hw ha
     go_simp
 case end6 =>
  intro sI R G w7 hI
  have hS := hI.same
  have hTT := hI.holds
  have hz0 := EE.out.size
  replace P2 : Blk w7 g0 23 (miR e 0 0 0) := hI.olds' 2 (List.mem_range.2 (show 2 < 4 by decide)) 0 rfl
  replace EE := hide (show Ext _ _ from hTT)
  clear hS hz0 hTT hI P2_lt
  generalize hF : putE _ _ _ _ _ _ _ = FF
  have hF2 : FF = { tmps := #[.int .i64 e, undef, .pointer (some ⟨g0, 0, none⟩), .int .i64 0, .int .i64 e, .bool true, .bool false, undef, .int .i64 e, .agg (miR e 0 0 0)], defers := [] } := by subst hF; kernel_rfl
  clear hF
  subst hF2
  go_wp2_with fail
  exact bodyPost_ret (res2 (p := 2) (u := 3) (ty := 23) rfl _ _ _ 23 (miR e 0 0 0) _ rfl P2 uMid rfl iMid) rfl ⟨by kernel_rfl, EE.out⟩
set_option maxHeartbeats 3200000 in
set_option maxRecDepth 100000 in
theorem p_startM_no (e : Int) (W : World) (kt : Hid (∀ w, Calls Try.prog 27 #[.int .i64 e] w (Ret (.bool false) w))) : Calls Try.prog 10 #[.int .i64 e] W (Ret (.tuple #[.agg z4m, .int .i64 9]) W) := by
 have P2 := Blk.new W 23 z4m
 have EE := hide (ext_alloc W (.cells z4m 23))
 obtain ⟨W1, hW1⟩ : ∃ W1, (W.alloc (.cells z4m 23)) = W1 := ⟨_, rfl⟩
 obtain ⟨g0, hg⟩ : ∃ g, W.heap.size = g := ⟨_, rfl⟩
 rw [hW1] at P2 EE
 rw [hg] at P2
 have P2_lo : W.heap.size ≤ g0 := by omega
 have HW := hide hW1
 have Hg := hide hg
 clear hW1 hg
 go_enter Try.func10, Try.ntmps10
 go_upto_region 1 with fail
 unfold z4m at HW
 rw [HW.out, Hg.out]
 clear HW Hg
 refine wp_region_reads ?_
 repeat (first | go_big_quiet_step (first | with_reducible exact quiet_ret (kt.out _)) | quiet_step (first | with_reducible exact quiet_ret (kt.out _)))
 refine wpQuiet_nil ?_
 intro _ hw'
 obtain ⟨⟨dq, osq⟩, hw''⟩ := hw'
 subst hw''
 replace P2 := (P2).ext (ext_regrown W1 dq osq)
 replace EE := hide (EE.out.trans (ext_regrown W1 dq osq))
 obtain ⟨w2, hzq1⟩ : ∃ w, grow (redrawn W1 dq) osq = w := ⟨_, rfl⟩
 rw [hzq1] at EE P2 ⊢
 clear hzq1
 go_upto_region 2 with fail
 have P2_lt := P2.lt
 refine wp_evs [.q, .so 0, .q] [0, 0, 0] (fun R => [.agg z4m, undef, .int .i64 9]) (fun _ => (.cells #[] 0 (0, 0))) (fun R _ => (.cells z4m 23 (0, 0))) (fun _ => g0) (XE W) (fun _ => False) (by kernel_rfl) (by kernel_rfl) (by kernel_rfl) rfl (fun _ => rfl) (fun _ h => h.elim) (fun _ _ h => h) (by intro c hc; simp at hc; (try subst hc); (try simp only); omega) (by intro c c' h1 h2 _; simp at h1 h2; omega) (fun R R' => ⟨fun _ => rfl, fun _ => rfl, fun _ => rfl, trivial⟩) (fun _ _ _ _ => rfl) xe_below EE.out ?ops5 ?end5
 case ops5 =>
   refine ⟨?_, ?_, ?_, trivial⟩
   · refine er_q ?vn3 ?hn3 ?kn3 ?gn3 ?_
     case hn3 => exact rfl
     case vn3 => exact (fun R => .agg z4m)
     case kn3 => exact (fun R => rfl)
     case gn3 => exact gd_none rfl
     intro R s w' hT hs hw ha
     generalize hA : putE _ _ _ _ _ _ _ = AA
     refine q_buildM (vs := #[]) rfl ?_ (b_mi0)
     subst hA
     kernel_rfl
   · refine er_so (c := 0) (Ty := ?Tn4) (p := ?pn4) (x := ?xn4) g0 ?fn4 ?un4 ?vn4 ?hn4 ?on4 ?kn4 ?ln4 ?gn4 ?dn4 ?en4 ?_
     case hn4 => exact rfl
     case on4 => exact rfl
     case fn4 => exact (fun R => (.cells z4m 23 (0, 0)))
     case un4 => exact (fun R => .pointer (some ⟨g0, 0, none⟩))
     case vn4 => exact (fun R => .agg z4m)
     case kn4 => exact (fun R => rfl)
     case ln4 => exact rfl
     case gn4 => exact gd_none rfl
     case dn4 =>
       intro R
       kernel_rfl
     case en4 =>
       intro R
       kernel_rfl
     intro R s ρ w hT hs hp hx hz
     refine ⟨store_rowN (g := g0) rfl hp hx (hz.trans P2) iMid (rfl) (rfl) (z4m_one), fun w1 hF => ext_filled hT hF P2_lo⟩
   · refine er_q ?vn5 ?hn5 ?kn5 ?gn5 ?_
     case hn5 => exact rfl
     case vn5 => exact (fun R => .int .i64 9)
     case kn5 => exact (fun R => rfl)
     case gn5 => exact gd_none rfl
     intro R s w' hT hs hw ha
     go_simp
 case end5 =>
  intro sI R G w6 hI
  have hS := hI.same
  have hTT := hI.holds
  have hz0 := EE.out.size
  replace P2 : Blk w6 g0 23 z4m := hI.olds' 1 (List.mem_range.2 (show 1 < 3 by decide)) 0 rfl
  replace EE := hide (show Ext _ _ from hTT)
  clear hS hz0 hTT hI P2_lt
  generalize hF : putE _ _ _ _ _ _ _ = FF
  have hF2 : FF = { tmps := #[.int .i64 e, undef, .pointer (some ⟨g0, 0, none⟩), .int .i64 9, .int .i64 e, .bool false, .bool true, .agg z4m, undef, undef], defers := [] } := by subst hF; kernel_rfl
  clear hF
  subst hF2
  go_wp2_with fail
  exact bodyPost_ret (res2 (p := 2) (u := 3) (ty := 23) rfl _ _ _ 23 z4m _ rfl P2 uMid rfl iMid) rfl ⟨by kernel_rfl, EE.out⟩
set_option maxHeartbeats 3200000 in
set_option maxRecDepth 100000 in
theorem r_startM (e : Int) (W : World) (kt : Hid (∀ w, Calls Try.prog 28 #[.int .i64 e] w (Ret (.bool true) w))) : Calls Try.prog 11 #[.int .i64 e] W (Ret (.tuple #[.agg (miR e 0 0 0), .int .i64 0]) W) := by
 have P2 := Blk.new W 23 z4m
 have EE := hide (ext_alloc W (.cells z4m 23))
 obtain ⟨W1, hW1⟩ : ∃ W1, (W.alloc (.cells z4m 23)) = W1 := ⟨_, rfl⟩
 obtain ⟨g0, hg⟩ : ∃ g, W.heap.size = g := ⟨_, rfl⟩
 rw [hW1] at P2 EE
 rw [hg] at P2
 have P2_lo : W.heap.size ≤ g0 := by omega
 have HW := hide hW1
 have Hg := hide hg
 clear hW1 hg
 go_enter Try.func11, Try.ntmps11
 go_upto_region 1 with fail
 unfold z4m at HW
 rw [HW.out, Hg.out]
 clear HW Hg
 refine wp_region_reads ?_
 repeat (first | go_big_quiet_step (first | with_reducible exact quiet_ret (kt.out _)) | quiet_step (first | with_reducible exact quiet_ret (kt.out _)))
 refine wpQuiet_nil ?_
 intro _ hw'
 obtain ⟨⟨dq, osq⟩, hw''⟩ := hw'
 subst hw''
 replace P2 := (P2).ext (ext_regrown W1 dq osq)
 replace EE := hide (EE.out.trans (ext_regrown W1 dq osq))
 obtain ⟨w2, hzq1⟩ : ∃ w, grow (redrawn W1 dq) osq = w := ⟨_, rfl⟩
 rw [hzq1] at EE P2 ⊢
 clear hzq1
 go_upto_region 3 with fail
 have P2_lt := P2.lt
 refine wp_evs [.q, .q, .so 0, .q] [0, 0, 0, 0] (fun R => [.int .i64 e, .agg (miR e 0 0 0), undef, .int .i64 0]) (fun _ => (.cells #[] 0 (0, 0))) (fun R _ => (.cells (miR e 0 0 0) 23 (0, 0))) (fun _ => g0) (XE W) (fun _ => False) (by kernel_rfl) (by kernel_rfl) (by kernel_rfl) rfl (fun _ => rfl) (fun _ h => h.elim) (fun _ _ h => h) (by intro c hc; simp at hc; (try subst hc); (try simp only); omega) (by intro c c' h1 h2 _; simp at h1 h2; omega) (fun R R' => ⟨fun _ => rfl, fun _ => rfl, fun _ => rfl, fun _ => rfl, trivial⟩) (fun _ _ _ _ => rfl) xe_below EE.out ?ops6 ?end6
 case ops6 =>
   refine ⟨?_, ?_, ?_, ?_, trivial⟩
   · refine er_q ?vn3 ?hn3 ?kn3 ?gn3 ?_
     case hn3 => exact rfl
     case vn3 => exact (fun R => .int .i64 e)
     case kn3 => exact (fun R => rfl)
     case gn3 => exact gd_none rfl
     intro R s w' hT hs hw ha
     go_simp
   · refine er_q ?vn4 ?hn4 ?kn4 ?gn4 ?_
     case hn4 => exact rfl
     case vn4 => exact (fun R => .agg (miR e 0 0 0))
     case kn4 => exact (fun R => rfl)
     case gn4 => exact gd_none rfl
     intro R s w' hT hs hw ha
     generalize hA : putE _ _ _ _ _ _ _ = AA
     refine q_buildM (vs := #[(0, .int .i64 e)]) rfl ?_ (b_miT e)
     subst hA
     kernel_rfl
   · refine er_so (c := 0) (Ty := ?Tn5) (p := ?pn5) (x := ?xn5) g0 ?fn5 ?un5 ?vn5 ?hn5 ?on5 ?kn5 ?ln5 ?gn5 ?dn5 ?en5 ?_
     case hn5 => exact rfl
     case on5 => exact rfl
     case fn5 => exact (fun R => (.cells (miR e 0 0 0) 23 (0, 0)))
     case un5 => exact (fun R => .pointer (some ⟨g0, 0, none⟩))
     case vn5 => exact (fun R => .agg (miR e 0 0 0))
     case kn5 => exact (fun R => rfl)
     case ln5 => exact rfl
     case gn5 => exact gd_none rfl
     case dn5 =>
       intro R
       kernel_rfl
     case en5 =>
       intro R
       kernel_rfl
     intro R s ρ w hT hs hp hx hz
     refine ⟨store_rowN (g := g0) rfl hp hx (hz.trans P2) iMid (rfl) (rfl) (miR_one _ _ _ _), fun w1 hF => ext_filled hT hF P2_lo⟩
   · refine er_q ?vn6 ?hn6 ?kn6 ?gn6 ?_
     case hn6 => exact rfl
     case vn6 => exact (fun R => .int .i64 0)
     case kn6 => exact (fun R => rfl)
     case gn6 => exact gd_none rfl
     intro R s w' hT hs hw ha
     go_simp
 case end6 =>
  intro sI R G w7 hI
  have hS := hI.same
  have hTT := hI.holds
  have hz0 := EE.out.size
  replace P2 : Blk w7 g0 23 (miR e 0 0 0) := hI.olds' 2 (List.mem_range.2 (show 2 < 4 by decide)) 0 rfl
  replace EE := hide (show Ext _ _ from hTT)
  clear hS hz0 hTT hI P2_lt
  generalize hF : putE _ _ _ _ _ _ _ = FF
  have hF2 : FF = { tmps := #[.int .i64 e, undef, .pointer (some ⟨g0, 0, none⟩), .int .i64 0, .int .i64 e, .bool true, .bool false, undef, .int .i64 e, .agg (miR e 0 0 0)], defers := [] } := by subst hF; kernel_rfl
  clear hF
  subst hF2
  go_wp2_with fail
  exact bodyPost_ret (res2 (p := 2) (u := 3) (ty := 23) rfl _ _ _ 23 (miR e 0 0 0) _ rfl P2 uMid rfl iMid) rfl ⟨by kernel_rfl, EE.out⟩
set_option maxHeartbeats 3200000 in
set_option maxRecDepth 100000 in
theorem r_startM_no (e : Int) (W : World) (kt : Hid (∀ w, Calls Try.prog 28 #[.int .i64 e] w (Ret (.bool false) w))) : Calls Try.prog 11 #[.int .i64 e] W (Ret (.tuple #[.agg z4m, .int .i64 9]) W) := by
 have P2 := Blk.new W 23 z4m
 have EE := hide (ext_alloc W (.cells z4m 23))
 obtain ⟨W1, hW1⟩ : ∃ W1, (W.alloc (.cells z4m 23)) = W1 := ⟨_, rfl⟩
 obtain ⟨g0, hg⟩ : ∃ g, W.heap.size = g := ⟨_, rfl⟩
 rw [hW1] at P2 EE
 rw [hg] at P2
 have P2_lo : W.heap.size ≤ g0 := by omega
 have HW := hide hW1
 have Hg := hide hg
 clear hW1 hg
 go_enter Try.func11, Try.ntmps11
 go_upto_region 1 with fail
 unfold z4m at HW
 rw [HW.out, Hg.out]
 clear HW Hg
 refine wp_region_reads ?_
 repeat (first | go_big_quiet_step (first | with_reducible exact quiet_ret (kt.out _)) | quiet_step (first | with_reducible exact quiet_ret (kt.out _)))
 refine wpQuiet_nil ?_
 intro _ hw'
 obtain ⟨⟨dq, osq⟩, hw''⟩ := hw'
 subst hw''
 replace P2 := (P2).ext (ext_regrown W1 dq osq)
 replace EE := hide (EE.out.trans (ext_regrown W1 dq osq))
 obtain ⟨w2, hzq1⟩ : ∃ w, grow (redrawn W1 dq) osq = w := ⟨_, rfl⟩
 rw [hzq1] at EE P2 ⊢
 clear hzq1
 go_upto_region 2 with fail
 have P2_lt := P2.lt
 refine wp_evs [.q, .so 0, .q] [0, 0, 0] (fun R => [.agg z4m, undef, .int .i64 9]) (fun _ => (.cells #[] 0 (0, 0))) (fun R _ => (.cells z4m 23 (0, 0))) (fun _ => g0) (XE W) (fun _ => False) (by kernel_rfl) (by kernel_rfl) (by kernel_rfl) rfl (fun _ => rfl) (fun _ h => h.elim) (fun _ _ h => h) (by intro c hc; simp at hc; (try subst hc); (try simp only); omega) (by intro c c' h1 h2 _; simp at h1 h2; omega) (fun R R' => ⟨fun _ => rfl, fun _ => rfl, fun _ => rfl, trivial⟩) (fun _ _ _ _ => rfl) xe_below EE.out ?ops5 ?end5
 case ops5 =>
   refine ⟨?_, ?_, ?_, trivial⟩
   · refine er_q ?vn3 ?hn3 ?kn3 ?gn3 ?_
     case hn3 => exact rfl
     case vn3 => exact (fun R => .agg z4m)
     case kn3 => exact (fun R => rfl)
     case gn3 => exact gd_none rfl
     intro R s w' hT hs hw ha
     generalize hA : putE _ _ _ _ _ _ _ = AA
     refine q_buildM (vs := #[]) rfl ?_ (b_mi0)
     subst hA
     kernel_rfl
   · refine er_so (c := 0) (Ty := ?Tn4) (p := ?pn4) (x := ?xn4) g0 ?fn4 ?un4 ?vn4 ?hn4 ?on4 ?kn4 ?ln4 ?gn4 ?dn4 ?en4 ?_
     case hn4 => exact rfl
     case on4 => exact rfl
     case fn4 => exact (fun R => (.cells z4m 23 (0, 0)))
     case un4 => exact (fun R => .pointer (some ⟨g0, 0, none⟩))
     case vn4 => exact (fun R => .agg z4m)
     case kn4 => exact (fun R => rfl)
     case ln4 => exact rfl
     case gn4 => exact gd_none rfl
     case dn4 =>
       intro R
       kernel_rfl
     case en4 =>
       intro R
       kernel_rfl
     intro R s ρ w hT hs hp hx hz
     refine ⟨store_rowN (g := g0) rfl hp hx (hz.trans P2) iMid (rfl) (rfl) (z4m_one), fun w1 hF => ext_filled hT hF P2_lo⟩
   · refine er_q ?vn5 ?hn5 ?kn5 ?gn5 ?_
     case hn5 => exact rfl
     case vn5 => exact (fun R => .int .i64 9)
     case kn5 => exact (fun R => rfl)
     case gn5 => exact gd_none rfl
     intro R s w' hT hs hw ha
     go_simp
 case end5 =>
  intro sI R G w6 hI
  have hS := hI.same
  have hTT := hI.holds
  have hz0 := EE.out.size
  replace P2 : Blk w6 g0 23 z4m := hI.olds' 1 (List.mem_range.2 (show 1 < 3 by decide)) 0 rfl
  replace EE := hide (show Ext _ _ from hTT)
  clear hS hz0 hTT hI P2_lt
  generalize hF : putE _ _ _ _ _ _ _ = FF
  have hF2 : FF = { tmps := #[.int .i64 e, undef, .pointer (some ⟨g0, 0, none⟩), .int .i64 9, .int .i64 e, .bool false, .bool true, .agg z4m, undef, undef], defers := [] } := by subst hF; kernel_rfl
  clear hF
  subst hF2
  go_wp2_with fail
  exact bodyPost_ret (res2 (p := 2) (u := 3) (ty := 23) rfl _ _ _ 23 z4m _ rfl P2 uMid rfl iMid) rfl ⟨by kernel_rfl, EE.out⟩
set_option maxHeartbeats 3200000 in
set_option maxRecDepth 100000 in
theorem p_ext0 (t c lo hi v : Int) (W : World) (d0 : (c == 0) = true) : Calls Try.prog 45 #[.agg (miR t c lo hi), .int .i64 v] W (Ret (.tuple #[.agg z4m, .bool false]) W) := by
 have P2 := (Blk.new W 23 (miR t c lo hi)).alloc (.cells z4m 23)
 have P4 := Blk.new (W.alloc (.cells (miR t c lo hi) 23)) 23 z4m
 rw [alloc_size] at P4
 have EE := hide ((ext_alloc W (.cells (miR t c lo hi) 23)).trans (ext_alloc _ (.cells z4m 23)))
 obtain ⟨W1, hW1⟩ : ∃ W1, ((W.alloc (.cells (miR t c lo hi) 23)).alloc (.cells z4m 23)) = W1 := ⟨_, rfl⟩
 obtain ⟨g0, hg⟩ : ∃ g, W.heap.size = g := ⟨_, rfl⟩
 rw [hW1] at P2 P4 EE
 rw [hg] at P2 P4
 have P2_lo : W.heap.size ≤ g0 := by omega
 have P4_lo : W.heap.size ≤ g0 + 1 := by omega
 have HW := hide hW1
 have Hg := hide hg
 clear hW1 hg
 go_enter Try.func45, Try.ntmps45
 go_upto_region 1 with fail
 unfold z4m at HW
 rw [HW.out, Hg.out]
 clear HW Hg
 have cq1_0 := fun d os => (((P2).ext (ext_regrown W1 d os)).cell 2).trans (show (miR t c lo hi)[2]? = some (.int .i64 lo) from rfl)
 have cq1_1 := fun d os => (((P2).ext (ext_regrown W1 d os)).cell 3).trans (show (miR t c lo hi)[3]? = some (.int .i64 hi) from rfl)
 refine wp_region_quiet_below (by kernel_rfl) (by kernel_rfl) ?_
 repeat (first | go_big_quiet_step (fail) | quiet_step (fail))
 refine wpQuiet_nil ?_
 intro _ hw'
 obtain ⟨⟨dq, osq⟩, hw''⟩ := hw'
 subst hw''
 replace P2 := (P2).ext (ext_regrown W1 dq osq)
 replace P4 := (P4).ext (ext_regrown W1 dq osq)
 replace EE := hide (EE.out.trans (ext_regrown W1 dq osq))
 obtain ⟨w2, hzq1⟩ : ∃ w, grow (redrawn W1 dq) osq = w := ⟨_, rfl⟩
 rw [hzq1] at EE P2 P4 ⊢
 clear hzq1 cq1_0 cq1_1
 go_upto_region 2 with fail
 have cq3_0 := fun d os => (((P2).ext (ext_regrown w2 d os)).cell 1).trans (show (miR t c lo hi)[1]? = some (.int .i64 c) from rfl)
 refine wp_region_reads ?_
 repeat (first | go_big_quiet_step (fail) | quiet_step (fail))
 refine wpQuiet_nil ?_
 intro _ hw'
 obtain ⟨⟨dq, osq⟩, hw''⟩ := hw'
 subst hw''
 replace P2 := (P2).ext (ext_regrown w2 dq osq)
 replace P4 := (P4).ext (ext_regrown w2 dq osq)
 replace EE := hide (EE.out.trans (ext_regrown w2 dq osq))
 obtain ⟨w4, hzq3⟩ : ∃ w, grow (redrawn w2 dq) osq = w := ⟨_, rfl⟩
 rw [hzq3] at EE P2 P4 ⊢
 clear hzq3 cq3_0
 go_upto_region 3 with fail
 have P2_lt := P2.lt
 have P4_lt := P4.lt
 refine wp_evs [.q, .so 0, .q] [0, 0, 0] (fun R => [.agg z4m, undef, .bool false]) (fun _ => (.cells #[] 0 (0, 0))) (fun R _ => (.cells z4m 23 (0, 0))) (fun _ => g0 + 1) (XE W) (fun _ => False) (by kernel_rfl) (by kernel_rfl) (by kernel_rfl) rfl (fun _ => rfl) (fun _ h => h.elim) (fun _ _ h => h) (by intro c hc; simp at hc; (try subst hc); (try simp only); omega) (by intro c c' h1 h2 _; simp at h1 h2; omega) (fun R R' => ⟨fun _ => rfl, fun _ => rfl, fun _ => rfl, trivial⟩) (fun _ _ _ _ => rfl) xe_below EE.out ?ops7 ?end7
 case ops7 =>
   refine ⟨?_, ?_, ?_, trivial⟩
   · refine er_q ?vn5 ?hn5 ?kn5 ?gn5 ?_
     case hn5 => exact rfl
     case vn5 => exact (fun R => .agg z4m)
     case kn5 => exact (fun R => rfl)
     case gn5 => exact gd_none rfl
     intro R s w' hT hs hw ha
     generalize hA : putE _ _ _ _ _ _ _ = AA
     refine q_buildM (vs := #[]) rfl ?_ (b_mi0)
     subst hA
     kernel_rfl
   · refine er_so (c := 0) (Ty := ?Tn6) (p := ?pn6) (x := ?xn6) (g0 + 1) ?fn6 ?un6 ?vn6 ?hn6 ?on6 ?kn6 ?ln6 ?gn6 ?dn6 ?en6 ?_
     case hn6 => exact rfl
     case on6 => exact rfl
     case fn6 => exact (fun R => (.cells z4m 23 (0, 0)))
     case un6 => exact (fun R => .pointer (some ⟨g0 + 1, 0, none⟩))
     case vn6 => exact (fun R => .agg z4m)
     case kn6 => exact (fun R => rfl)
     case ln6 => exact rfl
     case gn6 => exact gd_none rfl
     case dn6 =>
       intro R
       kernel_rfl
     case en6 =>
       intro R
       kernel_rfl
     intro R s ρ w hT hs hp hx hz
     refine ⟨store_rowN (g := (g0 + 1)) rfl hp hx (hz.trans P4) iMid (rfl) (rfl) (z4m_one), fun w1 hF => ext_filled hT hF P4_lo⟩
   · refine er_q ?vn7 ?hn7 ?kn7 ?gn7 ?_
     case hn7 => exact rfl
     case vn7 => exact (fun R => .bool false)
     case kn7 => exact (fun R => rfl)
     case gn7 => exact gd_none rfl
     intro R s w' hT hs hw ha
     go_simp
 case end7 =>
  intro sI R G w8 hI
  have hS := hI.same
  have hTT := hI.holds
  have hz0 := EE.out.size
  replace P2 := P2.sameE hS (fun h => h) (by intro c hc; simp at hc; (try subst hc); (try simp only); omega)
  replace P4 : Blk w8 (g0 + 1) 23 z4m := hI.olds' 1 (List.mem_range.2 (show 1 < 3 by decide)) 0 rfl
  replace EE := hide (show Ext _ _ from hTT)
  clear hS hz0 hTT hI P2_lt P4_lt
  generalize hF : putE _ _ _ _ _ _ _ = FF
  have hF2 : FF = { tmps := #[.agg (miR t c lo hi), .int .i64 v, .pointer (some ⟨g0, 0, none⟩), undef, .pointer (some ⟨g0 + 1, 0, none⟩), .bool false, .int .i64 (min lo v), .int .i64 (max hi v), .pointer (some ⟨g0, 2, none⟩), .int .i64 lo, .int .i64 v, .int .i64 (min lo v), .pointer (some ⟨g0, 3, none⟩), .int .i64 hi, .int .i64 v, .int .i64 (max hi v), .pointer (some ⟨g0, 1, none⟩), .int .i64 c, .bool true, .bool true, undef, undef, undef, undef, undef, undef, .bool true, .agg z4m, undef, undef, undef, undef, undef, undef, undef, undef], defers := [] } := by subst hF; kernel_rfl
  clear hF
  subst hF2
  go_wp2_with fail
  exact bodyPost_ret (res2 (p := 4) (u := 5) (ty := 23) rfl _ _ _ 23 z4m _ rfl P4 uMid rfl iMid) rfl ⟨by kernel_rfl, EE.out⟩
set_option maxHeartbeats 3200000 in
set_option maxRecDepth 100000 in
theorem p_extN (t c lo hi v : Int) (W : World) (d0 : (c == 0) = false) (kh : Hid (∀ w, Calls Try.prog 42 #[.int .i64 (min lo v), .int .i64 (max hi v), .int .i64 t] w (Ret (.bool false) w))) : Calls Try.prog 45 #[.agg (miR t c lo hi), .int .i64 v] W (Ret (.tuple #[.agg z4m, .bool false]) W) := by
 have P2 := (Blk.new W 23 (miR t c lo hi)).alloc (.cells z4m 23)
 have P4 := Blk.new (W.alloc (.cells (miR t c lo hi) 23)) 23 z4m
 rw [alloc_size] at P4
 have EE := hide ((ext_alloc W (.cells (miR t c lo hi) 23)).trans (ext_alloc _ (.cells z4m 23)))
 obtain ⟨W1, hW1⟩ : ∃ W1, ((W.alloc (.cells (miR t c lo hi) 23)).alloc (.cells z4m 23)) = W1 := ⟨_, rfl⟩
 obtain ⟨g0, hg⟩ : ∃ g, W.heap.size = g := ⟨_, rfl⟩
 rw [hW1] at P2 P4 EE
 rw [hg] at P2 P4
 have P2_lo : W.heap.size ≤ g0 := by omega
 have P4_lo : W.heap.size ≤ g0 + 1 := by omega
 have HW := hide hW1
 have Hg := hide hg
 clear hW1 hg
 go_enter Try.func45, Try.ntmps45
 go_upto_region 1 with fail
 unfold z4m at HW
 rw [HW.out, Hg.out]
 clear HW Hg
 have cq1_0 := fun d os => (((P2).ext (ext_regrown W1 d os)).cell 2).trans (show (miR t c lo hi)[2]? = some (.int .i64 lo) from rfl)
 have cq1_1 := fun d os => (((P2).ext (ext_regrown W1 d os)).cell 3).trans (show (miR t c lo hi)[3]? = some (.int .i64 hi) from rfl)
 refine wp_region_quiet_below (by kernel_rfl) (by kernel_rfl) ?_
 repeat (first | go_big_quiet_step (fail) | quiet_step (fail))
 refine wpQuiet_nil ?_
 intro _ hw'
 obtain ⟨⟨dq, osq⟩, hw''⟩ := hw'
 subst hw''
 replace P2 := (P2).ext (ext_regrown W1 dq osq)
 replace P4 := (P4).ext (ext_regrown W1 dq osq)
 replace EE := hide (EE.out.trans (ext_regrown W1 dq osq))
 obtain ⟨w2, hzq1⟩ : ∃ w, grow (redrawn W1 dq) osq = w := ⟨_, rfl⟩
 rw [hzq1] at EE P2 P4 ⊢
 clear hzq1 cq1_0 cq1_1
 go_upto_region 2 with fail
 have cq3_0 := fun d os => (((P2).ext (ext_regrown w2 d os)).cell 1).trans (show (miR t c lo hi)[1]? = some (.int .i64 c) from rfl)
 have cq3_1 := fun d os => (((P2).ext (ext_regrown w2 d os)).cell 0).trans (show (miR t c lo hi)[0]? = some (.int .i64 t) from rfl)
 refine wp_region_reads ?_
 repeat (first | go_big_quiet_step (first | with_reducible exact quiet_ret (kh.out _)) | quiet_step (first | with_reducible exact quiet_ret (kh.out _)))
 refine wpQuiet_nil ?_
 intro _ hw'
 obtain ⟨⟨dq, osq⟩, hw''⟩ := hw'
 subst hw''
 replace P2 := (P2).ext (ext_regrown w2 dq osq)
 replace P4 := (P4).ext (ext_regrown w2 dq osq)
 replace EE := hide (EE.out.trans (ext_regrown w2 dq osq))
 obtain ⟨w4, hzq3⟩ : ∃ w, grow (redrawn w2 dq) osq = w := ⟨_, rfl⟩
 rw [hzq3] at EE P2 P4 ⊢
 clear hzq3 cq3_0 cq3_1
 go_upto_region 3 with fail
 have P2_lt := P2.lt
 have P4_lt := P4.lt
 refine wp_evs [.q, .so 0, .q] [0, 0, 0] (fun R => [.agg z4m, undef, .bool false]) (fun _ => (.cells #[] 0 (0, 0))) (fun R _ => (.cells z4m 23 (0, 0))) (fun _ => g0 + 1) (XE W) (fun _ => False) (by kernel_rfl) (by kernel_rfl) (by kernel_rfl) rfl (fun _ => rfl) (fun _ h => h.elim) (fun _ _ h => h) (by intro c hc; simp at hc; (try subst hc); (try simp only); omega) (by intro c c' h1 h2 _; simp at h1 h2; omega) (fun R R' => ⟨fun _ => rfl, fun _ => rfl, fun _ => rfl, trivial⟩) (fun _ _ _ _ => rfl) xe_below EE.out ?ops7 ?end7
 case ops7 =>
   refine ⟨?_, ?_, ?_, trivial⟩
   · refine er_q ?vn5 ?hn5 ?kn5 ?gn5 ?_
     case hn5 => exact rfl
     case vn5 => exact (fun R => .agg z4m)
     case kn5 => exact (fun R => rfl)
     case gn5 => exact gd_none rfl
     intro R s w' hT hs hw ha
     generalize hA : putE _ _ _ _ _ _ _ = AA
     refine q_buildM (vs := #[]) rfl ?_ (b_mi0)
     subst hA
     kernel_rfl
   · refine er_so (c := 0) (Ty := ?Tn6) (p := ?pn6) (x := ?xn6) (g0 + 1) ?fn6 ?un6 ?vn6 ?hn6 ?on6 ?kn6 ?ln6 ?gn6 ?dn6 ?en6 ?_
     case hn6 => exact rfl
     case on6 => exact rfl
     case fn6 => exact (fun R => (.cells z4m 23 (0, 0)))
     case un6 => exact (fun R => .pointer (some ⟨g0 + 1, 0, none⟩))
     case vn6 => exact (fun R => .agg z4m)
     case kn6 => exact (fun R => rfl)
     case ln6 => exact rfl
     case gn6 => exact gd_none rfl
     case dn6 =>
       intro R
       kernel_rfl
     case en6 =>
       intro R
       kernel_rfl
     intro R s ρ w hT hs hp hx hz
     refine ⟨store_rowN (g := (g0 + 1)) rfl hp hx (hz.trans P4) iMid (rfl) (rfl) (z4m_one), fun w1 hF => ext_filled hT hF P4_lo⟩
   · refine er_q ?vn7 ?hn7 ?kn7 ?gn7 ?_
     case hn7 => exact rfl
     case vn7 => exact (fun R => .bool false)
     case kn7 => exact (fun R => rfl)
     case gn7 => exact gd_none rfl
     intro R s w' hT hs hw ha
     go_simp
 case end7 =>
  intro sI R G w8 hI
  have hS := hI.same
  have hTT := hI.holds
  have hz0 := EE.out.size
  replace P2 := P2.sameE hS (fun h => h) (by intro c hc; simp at hc; (try subst hc); (try simp only); omega)
  replace P4 : Blk w8 (g0 + 1) 23 z4m := hI.olds' 1 (List.mem_range.2 (show 1 < 3 by decide)) 0 rfl
  replace EE := hide (show Ext _ _ from hTT)
  clear hS hz0 hTT hI P2_lt P4_lt
  generalize hF : putE _ _ _ _ _ _ _ = FF
  have hF2 : FF = { tmps := #[.agg (miR t c lo hi), .int .i64 v, .pointer (some ⟨g0, 0, none⟩), undef, .pointer (some ⟨g0 + 1, 0, none⟩), .bool false, .int .i64 (min lo v), .int .i64 (max hi v), .pointer (some ⟨g0, 2, none⟩), .int .i64 lo, .int .i64 v, .int .i64 (min lo v), .pointer (some ⟨g0, 3, none⟩), .int .i64 hi, .int .i64 v, .int .i64 (max hi v), .pointer (some ⟨g0, 1, none⟩), .int .i64 c, .bool false, .bool false, .int .i64 (min lo v), .int .i64 (max hi v), .pointer (some ⟨g0, 0, none⟩), .int .i64 t, .bool false, .bool true, .bool true, .agg z4m, undef, undef, undef, undef, undef, undef, undef, undef], defers := [] } := by subst hF; kernel_rfl
  clear hF
  subst hF2
  go_wp2_with fail
  exact bodyPost_ret (res2 (p := 4) (u := 5) (ty := 23) rfl _ _ _ 23 z4m _ rfl P4 uMid rfl iMid) rfl ⟨by kernel_rfl, EE.out⟩
set_option maxHeartbeats 3200000 in
set_option maxRecDepth 100000 in
theorem p_extY (t c lo hi v : Int) (W : World) (d0 : (c == 0) = false) (wr : IntKind.i64.wrap (c + 1) = c + 1) (kh : Hid (∀ w, Calls Try.prog 42 #[.int .i64 (min lo v), .int .i64 (max hi v), .int .i64 t] w (Ret (.bool true) w))) : Calls Try.prog 45 #[.agg (miR t c lo hi), .int .i64 v] W (Ret (.tuple #[.agg (miR t (c + 1) (min lo v) (max hi v)), .bool true]) W) := by
 have P2 := (Blk.new W 23 (miR t c lo hi)).alloc (.cells z4m 23)
 have P4 := Blk.new (W.alloc (.cells (miR t c lo hi) 23)) 23 z4m
 rw [alloc_size] at P4
 have EE := hide ((ext_alloc W (.cells (miR t c lo hi) 23)).trans (ext_alloc _ (.cells z4m 23)))
 obtain ⟨W1, hW1⟩ : ∃ W1, ((W.alloc (.cells (miR t c lo hi) 23)).alloc (.cells z4m 23)) = W1 := ⟨_, rfl⟩
 obtain ⟨g0, hg⟩ : ∃ g, W.heap.size = g := ⟨_, rfl⟩
 rw [hW1] at P2 P4 EE
 rw [hg] at P2 P4
 have P2_lo : W.heap.size ≤ g0 := by omega
 have P4_lo : W.heap.size ≤ g0 + 1 := by omega
 have HW := hide hW1
 have Hg := hide hg
 clear hW1 hg
 go_enter Try.func45, Try.ntmps45
 go_upto_region 1 with fail
 unfold z4m at HW
 rw [HW.out, Hg.out]
 clear HW Hg
 have cq1_0 := fun d os => (((P2).ext (ext_regrown W1 d os)).cell 2).trans (show (miR t c lo hi)[2]? = some (.int .i64 lo) from rfl)
 have cq1_1 := fun d os => (((P2).ext (ext_regrown W1 d os)).cell 3).trans (show (miR t c lo hi)[3]? = some (.int .i64 hi) from rfl)
 refine wp_region_quiet_below (by kernel_rfl) (by kernel_rfl) ?_
 repeat (first | go_big_quiet_step (fail) | quiet_step (fail))
 refine wpQuiet_nil ?_
 intro _ hw'
 obtain ⟨⟨dq, osq⟩, hw''⟩ := hw'
 subst hw''
 replace P2 := (P2).ext (ext_regrown W1 dq osq)
 replace P4 := (P4).ext (ext_regrown W1 dq osq)
 replace EE := hide (EE.out.trans (ext_regrown W1 dq osq))
 obtain ⟨w2, hzq1⟩ : ∃ w, grow (redrawn W1 dq) osq = w := ⟨_, rfl⟩
 rw [hzq1] at EE P2 P4 ⊢
 clear hzq1 cq1_0 cq1_1
 go_upto_region 2 with fail
 have cq3_0 := fun d os => (((P2).ext (ext_regrown w2 d os)).cell 1).trans (show (miR t c lo hi)[1]? = some (.int .i64 c) from rfl)
 have cq3_1 := fun d os => (((P2).ext (ext_regrown w2 d os)).cell 0).trans (show (miR t c lo hi)[0]? = some (.int .i64 t) from rfl)
 refine wp_region_reads ?_
 repeat (first | go_big_quiet_step (first | with_reducible exact quiet_ret (kh.out _)) | quiet_step (first | with_reducible exact quiet_ret (kh.out _)))
 refine wpQuiet_nil ?_
 intro _ hw'
 obtain ⟨⟨dq, osq⟩, hw''⟩ := hw'
 subst hw''
 replace P2 := (P2).ext (ext_regrown w2 dq osq)
 replace P4 := (P4).ext (ext_regrown w2 dq osq)
 replace EE := hide (EE.out.trans (ext_regrown w2 dq osq))
 obtain ⟨w4, hzq3⟩ : ∃ w, grow (redrawn w2 dq) osq = w := ⟨_, rfl⟩
 rw [hzq3] at EE P2 P4 ⊢
 clear hzq3 cq3_0 cq3_1
 go_upto_region 4 with fail
 have P2_lt := P2.lt
 have P4_lt := P4.lt
 refine wp_evs [.q, .q, .q, .q, .q, .q, .q, .q, .so 0, .q] [0, 0, 0, 0, 0, 0, 0, 0, 0, 0] (fun R => [.pointer (some ⟨g0, 0, none⟩), .int .i64 t, .pointer (some ⟨g0, 1, none⟩), .int .i64 c, .int .i64 (c + 1), .int .i64 (min lo v), .int .i64 (max hi v), .agg (miR t (c + 1) (min lo v) (max hi v)), undef, .bool true]) (fun _ => (.cells #[] 0 (0, 0))) (fun R _ => (.cells (miR t (c + 1) (min lo v) (max hi v)) 23 (0, 0))) (fun _ => g0 + 1) (XE W) (fun _ => False) (by kernel_rfl) (by kernel_rfl) (by kernel_rfl) rfl (fun _ => rfl) (fun _ h => h.elim) (fun _ _ h => h) (by intro c hc; simp at hc; (try subst hc); (try simp only); omega) (by intro c c' h1 h2 _; simp at h1 h2; omega) (fun R R' => ⟨fun _ => rfl, fun _ => rfl, fun _ => rfl, fun _ => rfl, fun _ => rfl, fun _ => rfl, fun _ => rfl, fun _ => rfl, fun _ => rfl, fun _ => rfl, trivial⟩) (fun _ _ _ _ => rfl) xe_below EE.out ?ops14 ?end14
 case ops14 =>
   refine ⟨?_, ?_, ?_, ?_, ?_, ?_, ?_, ?_, ?_, ?_, trivial⟩
   · refine er_q ?vn5 ?hn5 ?kn5 ?gn5 ?_
     case hn5 => exact rfl
     case vn5 => exact (fun R => .pointer (some ⟨g0, 0, none⟩))
     case kn5 => exact (fun R => rfl)
     case gn5 => exact gd_none rfl
     intro R s w' hT hs hw ha
     go_simp
   · refine er_q ?vn6 ?hn6 ?kn6 ?gn6 ?_
     case hn6 => exact rfl
     case vn6 => exact (fun R => .int .i64 t)
     case kn6 => exact (fun R => rfl)
     case gn6 => exact gd_none rfl
     intro R s w' hT hs hw ha
     have cc := ((show Blk w' g0 _ (miR t c lo hi) from P2.sameE hw (fun h => h) (by intro c hc; simp at hc; (try subst hc); (try simp only); omega)).cell 0).trans (show (miR t c lo hi)[0]? = some (.int .i64 t) from rfl)
     go_simp
   · refine er_q ?vn7 ?hn7 ?kn7 ?gn7 ?_
     case hn7 => exact rfl
     case vn7 => exact (fun R => .pointer (some ⟨g0, 1, none⟩))
     case kn7 => exact (fun R => rfl)
     case gn7 => exact gd_none rfl
     intro R s w' hT hs hw ha
     go_simp
   · refine er_q ?vn8 ?hn8 ?kn8 ?gn8 ?_
     case hn8 => exact rfl
     case vn8 => exact (fun R => .int .i64 c)
     case kn8 => exact (fun R => rfl)
     case gn8 => exact gd_none rfl
     intro R s w' hT hs hw ha
     have cc := ((show Blk w' g0 _ (miR t c lo hi) from P2.sameE hw (fun h => h) (by intro c hc; simp at hc; (try subst hc); (try simp only); omega)).cell 1).trans (show (miR t c lo hi)[1]? = some (.int .i64 c) from rfl)
     go_simp
   · refine er_q ?vn9 ?hn9 ?kn9 ?gn9 ?_
     case hn9 => exact rfl
     case vn9 => exact (fun R => .int .i64 (c + 1))
     case kn9 => exact (fun R => rfl)
     case gn9 => exact gd_none rfl
     intro R s w' hT hs hw ha
     go_simp
   · refine er_q ?vn10 ?hn10 ?kn10 ?gn10 ?_
     case hn10 => exact rfl
     case vn10 => exact (fun R => .int .i64 (min lo v))
     case kn10 => exact (fun R => rfl)
     case gn10 => exact gd_none rfl
     intro R s w' hT hs hw ha
     go_simp
   · refine er_q ?vn11 ?hn11 ?kn11 ?gn11 ?_
     case hn11 => exact rfl
     case vn11 => exact (fun R => .int .i64 (max hi v))
     case kn11 => exact (fun R => rfl)
     case gn11 => exact gd_none rfl
     intro R s w' hT hs hw ha
     go_simp
   · refine er_q ?vn12 ?hn12 ?kn12 ?gn12 ?_
     case hn12 => exact rfl
     case vn12 => exact (fun R => .agg (miR t (c + 1) (min lo v) (max hi v)))
     case kn12 => exact (fun R => rfl)
     case gn12 => exact gd_none rfl
     intro R s w' hT hs hw ha
     generalize hA : putE _ _ _ _ _ _ _ = AA
     refine q_buildM (vs := #[(0, .int .i64 t), (1, .int .i64 (c + 1)), (2, .int .i64 (min lo v)), (3, .int .i64 (max hi v))]) rfl ?_ (b_mi4 t (c + 1) (min lo v) (max hi v))
     subst hA
     kernel_rfl
   · refine er_so (c := 0) (Ty := ?Tn13) (p := ?pn13) (x := ?xn13) (g0 + 1) ?fn13 ?un13 ?vn13 ?hn13 ?on13 ?kn13 ?ln13 ?gn13 ?dn13 ?en13 ?_
     case hn13 => exact rfl
     case on13 => exact rfl
     case fn13 => exact (fun R => (.cells (miR t (c + 1) (min lo v) (max hi v)) 23 (0, 0)))
     case un13 => exact (fun R => .pointer (some ⟨g0 + 1, 0, none⟩))
     case vn13 => exact (fun R => .agg (miR t (c + 1) (min lo v) (max hi v)))
     case kn13 => exact (fun R => rfl)
     case ln13 => exact rfl
     case gn13 => exact gd_none rfl
     case dn13 =>
       intro R
       kernel_rfl
     case en13 =>
       intro R
       kernel_rfl
     intro R s ρ w hT hs hp hx hz
     refine ⟨store_rowN (g := (g0 + 1)) rfl hp hx (hz.trans P4) iMid (rfl) (rfl) (miR_one _ _ _ _), fun w1 hF => ext_filled hT hF P4_lo⟩
   · refine er_q ?vn14 ?hn14 ?kn14 ?gn14 ?_
     case hn14 => exact rfl
     case vn14 => exact (fun R => .bool true)
     case kn14 => exact (fun R => rfl)
     case gn14 => exact gd_none rfl
     intro R s w' hT hs hw ha
     go_simp
 case end14 =>
  intro sI R G w15 hI
  have hS := hI.same
  have hTT := hI.holds
  have hz0 := EE.out.size
  replace P2 := P2.sameE hS (fun h => h) (by intro c hc; simp at hc; (try subst hc); (try simp only); omega)
  replace P4 : Blk w15 (g0 + 1) 23 (miR t (c + 1) (min lo v) (max hi v)) := hI.olds' 8 (List.mem_range.2 (show 8 < 10 by decide)) 0 rfl
  replace EE := hide (show Ext _ _ from hTT)
  clear hS hz0 hTT hI P2_lt P4_lt
  generalize hF : putE _ _ _ _ _ _ _ = FF
  have hF2 : FF = { tmps := #[.agg (miR t c lo hi), .int .i64 v, .pointer (some ⟨g0, 0, none⟩), undef, .pointer (some ⟨g0 + 1, 0, none⟩), .bool true, .int .i64 (min lo v), .int .i64 (max hi v), .pointer (some ⟨g0, 2, none⟩), .int .i64 lo, .int .i64 v, .int .i64 (min lo v), .pointer (some ⟨g0, 3, none⟩), .int .i64 hi, .int .i64 v, .int .i64 (max hi v), .pointer (some ⟨g0, 1, none⟩), .int .i64 c, .bool false, .bool false, .int .i64 (min lo v), .int .i64 (max hi v), .pointer (some ⟨g0, 0, none⟩), .int .i64 t, .bool true, .bool false, .bool false, undef, .pointer (some ⟨g0, 0, none⟩), .int .i64 t, .pointer (some ⟨g0, 1, none⟩), .int .i64 c, .int .i64 (c + 1), .int .i64 (min lo v), .int .i64 (max hi v), .agg (miR t (c + 1) (min lo v) (max hi v))], defers := [] } := by subst hF; kernel_rfl
  clear hF
  subst hF2
  go_wp2_with fail
  exact bodyPost_ret (res2 (p := 4) (u := 5) (ty := 23) rfl _ _ _ 23 (miR t (c + 1) (min lo v) (max hi v)) _ rfl P4 uMid rfl iMid) rfl ⟨by kernel_rfl, EE.out⟩
set_option maxHeartbeats 3200000 in
set_option maxRecDepth 100000 in
theorem r_stepL (t c lo hi v : Int) (W : World) (kv : Hid (∀ w, Calls Try.prog 33 #[.agg (miR t c lo hi)] w (Ret (.bool true) w))) (d1 : (c == 1073741824) = true) : Calls Try.prog 25 #[.agg (miR t c lo hi), .int .i64 v] W (Ret (.tuple #[.agg z4m, .slice none 0 0, .int .i64 3]) W) := by
 have P2 := (Blk.new W 23 (miR t c lo hi)).alloc (.cells z4m 23)
 have P4 := Blk.new (W.alloc (.cells (miR t c lo hi) 23)) 23 z4m
 rw [alloc_size] at P4
 have EE := hide ((ext_alloc W (.cells (miR t c lo hi) 23)).trans (ext_alloc _ (.cells z4m 23)))
 obtain ⟨W1, hW1⟩ : ∃ W1, ((W.alloc (.cells (miR t c lo hi) 23)).alloc (.cells z4m 23)) = W1 := ⟨_, rfl⟩
 obtain ⟨g0, hg⟩ : ∃ g, W.heap.size = g := ⟨_, rfl⟩
 rw [hW1] at P2 P4 EE
 rw [hg] at P2 P4
 have P2_lo : W.heap.size ≤ g0 := by omega
 have P4_lo : W.heap.size ≤ g0 + 1 := by omega
 have HW := hide hW1
 have Hg := hide hg
 clear hW1 hg
 go_enter Try.func25, Try.ntmps25
 go_upto_region 1 with fail
 unfold z4m at HW
 rw [HW.out, Hg.out]
 clear HW Hg
 refine wp_region_reads ?_
 repeat (first | go_big_quiet_step (first | with_reducible exact quiet_ret (kv.out _)) | (refine wq_load (by kernel_rfl) rfl rfl (fun w hw => by obtain ⟨⟨d, os⟩, rfl⟩ := hw; exact ld_all ((P2).ext (ext_regrown W1 d os)) uMid rfl iMid rfl) ?_) | quiet_step (first | with_reducible exact quiet_ret (kv.out _)))
 refine wpQuiet_nil ?_
 intro _ hw'
 obtain ⟨⟨dq, osq⟩, hw''⟩ := hw'
 subst hw''
 replace P2 := (P2).ext (ext_regrown W1 dq osq)
 replace P4 := (P4).ext (ext_regrown W1 dq osq)
 replace EE := hide (EE.out.trans (ext_regrown W1 dq osq))
 obtain ⟨w2, hzq1⟩ : ∃ w, grow (redrawn W1 dq) osq = w := ⟨_, rfl⟩
 rw [hzq1] at EE P2 P4 ⊢
 clear hzq1
 go_upto_region 3 with fail
 have cq3_0 := fun d os => (((P2).ext (ext_regrown w2 d os)).cell 1).trans (show (miR t c lo hi)[1]? = some (.int .i64 c) from rfl)
 refine wp_region_reads ?_
 repeat (first | go_big_quiet_step (fail) | quiet_step (fail))
 refine wpQuiet_nil ?_
 intro _ hw'
 obtain ⟨⟨dq, osq⟩, hw''⟩ := hw'
 subst hw''
 replace P2 := (P2).ext (ext_regrown w2 dq osq)
 replace P4 := (P4).ext (ext_regrown w2 dq osq)
 replace EE := hide (EE.out.trans (ext_regrown w2 dq osq))
 obtain ⟨w4, hzq3⟩ : ∃ w, grow (redrawn w2 dq) osq = w := ⟨_, rfl⟩
 rw [hzq3] at EE P2 P4 ⊢
 clear hzq3 cq3_0
 go_upto_region 4 with fail
 have P2_lt := P2.lt
 have P4_lt := P4.lt
 refine wp_evs [.q, .so 0, .q, .q] [0, 0, 0, 0] (fun R => [.agg z4m, undef, .slice none 0 0, .int .i64 3]) (fun _ => (.cells #[] 0 (0, 0))) (fun R _ => (.cells z4m 23 (0, 0))) (fun _ => g0 + 1) (XE W) (fun _ => False) (by kernel_rfl) (by kernel_rfl) (by kernel_rfl) rfl (fun _ => rfl) (fun _ h => h.elim) (fun _ _ h => h) (by intro c hc; simp at hc; (try subst hc); (try simp only); omega) (by intro c c' h1 h2 _; simp at h1 h2; omega) (fun R R' => ⟨fun _ => rfl, fun _ => rfl, fun _ => rfl, fun _ => rfl, trivial⟩) (fun _ _ _ _ => rfl) xe_below EE.out ?ops8 ?end8
 case ops8 =>
   refine ⟨?_, ?_, ?_, ?_, trivial⟩
   · refine er_q ?vn5 ?hn5 ?kn5 ?gn5 ?_
     case hn5 => exact rfl
     case vn5 => exact (fun R => .agg z4m)
     case kn5 => exact (fun R => rfl)
     case gn5 => exact gd_none rfl
     intro R s w' hT hs hw ha
     generalize hA : putE _ _ _ _ _ _ _ = AA
     refine q_buildM (vs := #[]) rfl ?_ (b_mi0)
     subst hA
     kernel_rfl
   · refine er_so (c := 0) (Ty := ?Tn6) (p := ?pn6) (x := ?xn6) (g0 + 1) ?fn6 ?un6 ?vn6 ?hn6 ?on6 ?kn6 ?ln6 ?gn6 ?dn6 ?en6 ?_
     case hn6 => exact rfl
     case on6 => exact rfl
     case fn6 => exact (fun R => (.cells z4m 23 (0, 0)))
     case un6 => exact (fun R => .pointer (some ⟨g0 + 1, 0, none⟩))
     case vn6 => exact (fun R => .agg z4m)
     case kn6 => exact (fun R => rfl)
     case ln6 => exact rfl
     case gn6 => exact gd_none rfl
     case dn6 =>
       intro R
       kernel_rfl
     case en6 =>
       intro R
       kernel_rfl
     intro R s ρ w hT hs hp hx hz
     refine ⟨store_rowN (g := (g0 + 1)) rfl hp hx (hz.trans P4) iMid (rfl) (rfl) (z4m_one), fun w1 hF => ext_filled hT hF P4_lo⟩
   · refine er_q ?vn7 ?hn7 ?kn7 ?gn7 ?_
     case hn7 => exact rfl
     case vn7 => exact (fun R => .slice none 0 0)
     case kn7 => exact (fun R => rfl)
     case gn7 => exact gd_none rfl
     intro R s w' hT hs hw ha
     go_simp
   · refine er_q ?vn8 ?hn8 ?kn8 ?gn8 ?_
     case hn8 => exact rfl
     case vn8 => exact (fun R => .int .i64 3)
     case kn8 => exact (fun R => rfl)
     case gn8 => exact gd_none rfl
     intro R s w' hT hs hw ha
     go_simp
 case end8 =>
  intro sI R G w9 hI
  have hS := hI.same
  have hTT := hI.holds
  have hz0 := EE.out.size
  replace P2 := P2.sameE hS (fun h => h) (by intro c hc; simp at hc; (try subst hc); (try simp only); omega)
  replace P4 : Blk w9 (g0 + 1) 23 z4m := hI.olds' 1 (List.mem_range.2 (show 1 < 4 by decide)) 0 rfl
  replace EE := hide (show Ext _ _ from hTT)
  clear hS hz0 hTT hI P2_lt P4_lt
  generalize hF : putE _ _ _ _ _ _ _ = FF
  have hF2 : FF = { tmps := #[.agg (miR t c lo hi), .int .i64 v, .pointer (some ⟨g0, 0, none⟩), undef, .pointer (some ⟨g0 + 1, 0, none⟩), .slice none 0 0, .int .i64 3, undef, undef, undef, .agg (miR t c lo hi), .bool true, .bool false, undef, .pointer (some ⟨g0, 1, none⟩), .int .i64 c, .bool true, .agg z4m, undef, undef, undef, undef, undef, undef, undef, undef, undef, undef, undef, undef, undef, undef, undef, undef, undef, undef, undef, undef, undef, undef, undef, undef, undef, undef, undef, undef, undef, undef, undef, undef, undef], defers := [] } := by subst hF; kernel_rfl
  clear hF
  subst hF2
  go_wp2_with fail
  exact bodyPost_ret (res3 (p := 4) (u := 5) (u2 := 6) (ty := 23) rfl _ _ _ 23 z4m _ rfl P4 uMid rfl iMid) rfl ⟨by kernel_rfl, EE.out⟩
set_option maxHeartbeats 3200000 in
set_option maxRecDepth 100000 in
theorem r_stepY (t c lo hi v : Int) (W : World) (kv : Hid (∀ w, Calls Try.prog 33 #[.agg (miR t c lo hi)] w (Ret (.bool true) w))) (d1 : (c == 1073741824) = false) (wr : IntKind.i64.wrap (c + 1) = c + 1) (d2 : decide (0 < c) = true) (kf : Hid (∀ w, Calls Try.prog 39 #[.agg (miR t (c + 1) (min lo v) (max hi v))] w (Ret (.bool true) w))) : Calls Try.prog 25 #[.agg (miR t c lo hi), .int .i64 v] W (Ret (.tuple #[.agg (miR t (c + 1) (min lo v) (max hi v)), .slice none 0 0, .int .i64 0]) W) := by
 have P2 := (Blk.new W 23 (miR t c lo hi)).alloc (.cells z4m 23)
 have P4 := Blk.new (W.alloc (.cells (miR t c lo hi) 23)) 23 z4m
 rw [alloc_size] at P4
 have EE := hide ((ext_alloc W (.cells (miR t c lo hi) 23)).trans (ext_alloc _ (.cells z4m 23)))
 obtain ⟨W1, hW1⟩ : ∃ W1, ((W.alloc (.cells (miR t c lo hi) 23)).alloc (.cells z4m 23)) = W1 := ⟨_, rfl⟩
 obtain ⟨g0, hg⟩ : ∃ g, W.heap.size = g := ⟨_, rfl⟩
 rw [hW1] at P2 P4 EE
 rw [hg] at P2 P4
 have P2_lo : W.heap.size ≤ g0 := by omega
 have P4_lo : W.heap.size ≤ g0 + 1 := by omega
 have HW := hide hW1
 have Hg := hide hg
 clear hW1 hg
 go_enter Try.func25, Try.ntmps25
 go_upto_region 1 with fail
 unfold z4m at HW
 rw [HW.out, Hg.out]
 clear HW Hg
 refine wp_region_reads ?_
 repeat (first | go_big_quiet_step (first | with_reducible exact quiet_ret (kv.out _)) | (refine wq_load (by kernel_rfl) rfl rfl (fun w hw => by obtain ⟨⟨d, os⟩, rfl⟩ := hw; exact ld_all ((P2).ext (ext_regrown W1 d os)) uMid rfl iMid rfl) ?_) | quiet_step (first | with_reducible exact quiet_ret (kv.out _)))
 refine wpQuiet_nil ?_
 intro _ hw'
 obtain ⟨⟨dq, osq⟩, hw''⟩ := hw'
 subst hw''
 replace P2 := (P2).ext (ext_regrown W1 dq osq)
 replace P4 := (P4).ext (ext_regrown W1 dq osq)
 replace EE := hide (EE.out.trans (ext_regrown W1 dq osq))
 obtain ⟨w2, hzq1⟩ : ∃ w, grow (redrawn W1 dq) osq = w := ⟨_, rfl⟩
 rw [hzq1] at EE P2 P4 ⊢
 clear hzq1
 go_upto_region 3 with fail
 have cq3_0 := fun d os => (((P2).ext (ext_regrown w2 d os)).cell 1).trans (show (miR t c lo hi)[1]? = some (.int .i64 c) from rfl)
 refine wp_region_reads ?_
 repeat (first | go_big_quiet_step (fail) | quiet_step (fail))
 refine wpQuiet_nil ?_
 intro _ hw'
 obtain ⟨⟨dq, osq⟩, hw''⟩ := hw'
 subst hw''
 replace P2 := (P2).ext (ext_regrown w2 dq osq)
 replace P4 := (P4).ext (ext_regrown w2 dq osq)
 replace EE := hide (EE.out.trans (ext_regrown w2 dq osq))
 obtain ⟨w4, hzq3⟩ : ∃ w, grow (redrawn w2 dq) osq = w := ⟨_, rfl⟩
 rw [hzq3] at EE P2 P4 ⊢
 clear hzq3 cq3_0
 go_upto_region 5 with fail
 have P2_lt := P2.lt
 have P4_lt := P4.lt
 refine wp_evs [.q, .q, .q, .q, .q, .q, .q, .q, .q, .q, .q, .q, .q, .q, .al, .st 14] [0, 0, 0, 0, 0, 0, 0, 0, 0, 0, 0, 0, 0, 0, 0, 0] (fun R => [.pointer (some ⟨g0, 0, none⟩), .int .i64 t, .pointer (some ⟨g0, 1, none⟩), .int .i64 c, .int .i64 (c + 1), .pointer (some ⟨g0, 2, none⟩), .int .i64 lo, .int .i64 v, .int .i64 (min lo v), .pointer (some ⟨g0, 3, none⟩), .int .i64 hi, .int .i64 v, .int .i64 (max hi v), .agg (miR t (c + 1) (min lo v) (max hi v)), undef, undef]) (fun _ => (.cells z4m 23 (0, 0))) (fun R _ => (.cells (miR t (c + 1) (min lo v) (max hi v)) 23 (0, 0))) (fun _ => 0) (XE W) (fun _ => False) (by kernel_rfl) (by kernel_rfl) (by kernel_rfl) rfl (fun _ => rfl) (fun _ h => h.elim) (fun _ _ h => h) (by simp) (by simp) (fun R R' => ⟨fun _ => rfl, fun _ => rfl, fun _ => rfl, fun _ => rfl, fun _ => rfl, fun _ => rfl, fun _ => rfl, fun _ => rfl, fun _ => rfl, fun _ => rfl, fun _ => rfl, fun _ => rfl, fun _ => rfl, fun _ => rfl, fun _ => rfl, fun _ => rfl, trivial⟩) (fun _ _ _ _ => rfl) xe_below EE.out ?ops20 ?end20
 case ops20 =>
   refine ⟨?_, ?_, ?_, ?_, ?_, ?_, ?_, ?_, ?_, ?_, ?_, ?_, ?_, ?_, ?_, ?_, trivial⟩
   · refine er_q ?vn5 ?hn5 ?kn5 ?gn5 ?_
     case hn5 => exact rfl
     case vn5 => exact (fun R => .pointer (some ⟨g0, 0, none⟩))
     case kn5 => exact (fun R => rfl)
     case gn5 => exact gd_none rfl
     intro R s w' hT hs hw ha
     go_simp
   · refine er_q ?vn6 ?hn6 ?kn6 ?gn6 ?_
     case hn6 => exact rfl
     case vn6 => exact (fun R => .int .i64 t)
     case kn6 => exact (fun R => rfl)
     case gn6 => exact gd_none rfl
     intro R s w' hT hs hw ha
     have cc := ((show Blk w' g0 _ (miR t c lo hi) from P2.sameE hw (fun h => h) (by simp)).cell 0).trans (show (miR t c lo hi)[0]? = some (.int .i64 t) from rfl)
     go_simp
   · refine er_q ?vn7 ?hn7 ?kn7 ?gn7 ?_
     case hn7 => exact rfl
     case vn7 => exact (fun R => .pointer (some ⟨g0, 1, none⟩))
     case kn7 => exact (fun R => rfl)
     case gn7 => exact gd_none rfl
     intro R s w' hT hs hw ha
     go_simp
   · refine er_q ?vn8 ?hn8 ?kn8 ?gn8 ?_
     case hn8 => exact rfl
     case vn8 => exact (fun R => .int .i64 c)
     case kn8 => exact (fun R => rfl)
     case gn8 => exact gd_none rfl
     intro R s w' hT hs hw ha
     have cc := ((show Blk w' g0 _ (miR t c lo hi) from P2.sameE hw (fun h => h) (by simp)).cell 1).trans (show (miR t c lo hi)[1]? = some (.int .i64 c) from rfl)
     go_simp
   · refine er_q ?vn9 ?hn9 ?kn9 ?gn9 ?_
     case hn9 => exact rfl
     case vn9 => exact (fun R => .int .i64 (c + 1))
     case kn9 => exact (fun R => rfl)
     case gn9 => exact gd_none rfl
     intro R s w' hT hs hw ha
     go_simp
   · refine er_q ?vn10 ?hn10 ?kn10 ?gn10 ?_
     case hn10 => exact rfl
     case vn10 => exact (fun R => .pointer (some ⟨g0, 2, none⟩))
     case kn10 => exact (fun R => rfl)
     case gn10 => exact gd_none rfl
     intro R s w' hT hs hw ha
     go_simp
   · refine er_q ?vn11 ?hn11 ?kn11 ?gn11 ?_
     case hn11 => exact rfl
     case vn11 => exact (fun R => .int .i64 lo)
     case kn11 => exact (fun R => rfl)
     case gn11 => exact gd_none rfl
     intro R s w' hT hs hw ha
     have cc := ((show Blk w' g0 _ (miR t c lo hi) from P2.sameE hw (fun h => h) (by simp)).cell 2).trans (show (miR t c lo hi)[2]? = some (.int .i64 lo) from rfl)
     go_simp
   · refine er_q ?vn12 ?hn12 ?kn12 ?gn12 ?_
     case hn12 => exact rfl
     case vn12 => exact (fun R => .int .i64 v)
     case kn12 => exact (fun R => rfl)
     case gn12 => exact gd_none rfl
     intro R s w' hT hs hw ha
     go_simp
   · refine er_q ?vn13 ?hn13 ?kn13 ?gn13 ?_
     case hn13 => exact rfl
     case vn13 => exact (fun R => .int .i64 (min lo v))
     case kn13 => exact (fun R => rfl)
     case gn13 => exact gd_none rfl
     intro R s w' hT hs hw ha
     go_simp
   · refine er_q ?vn14 ?hn14 ?kn14 ?gn14 ?_
     case hn14 => exact rfl
     case vn14 => exact (fun R => .pointer (some ⟨g0, 3, none⟩))
     case kn14 => exact (fun R => rfl)
     case gn14 => exact gd_none rfl
     intro R s w' hT hs hw ha
     go_simp
   · refine er_q ?vn15 ?hn15 ?kn15 ?gn15 ?_
     case hn15 => exact rfl
     case vn15 => exact (fun R => .int .i64 hi)
     case kn15 => exact (fun R => rfl)
     case gn15 => exact gd_none rfl
     intro R s w' hT hs hw ha
     have cc := ((show Blk w' g0 _ (miR t c lo hi) from P2.sameE hw (fun h => h) (by simp)).cell 3).trans (show (miR t c lo hi)[3]? = some (.int .i64 hi) from rfl)
     go_simp
   · refine er_q ?vn16 ?hn16 ?kn16 ?gn16 ?_
     case hn16 => exact rfl
     case vn16 => exact (fun R => .int .i64 v)
     case kn16 => exact (fun R => rfl)
     case gn16 => exact gd_none rfl
     intro R s w' hT hs hw ha
     go_simp
   · refine er_q ?vn17 ?hn17 ?kn17 ?gn17 ?_
     case hn17 => exact rfl
     case vn17 => exact (fun R => .int .i64 (max hi v))
     case kn17 => exact (fun R => rfl)
     case gn17 => exact gd_none rfl
     intro R s w' hT hs hw ha
     go_simp
   · refine er_q ?vn18 ?hn18 ?kn18 ?gn18 ?_
     case hn18 => exact rfl
     case vn18 => exact (fun R => .agg (miR t (c + 1) (min lo v) (max hi v)))
     case kn18 => exact (fun R => rfl)
     case gn18 => exact gd_none rfl
     intro R s w' hT hs hw ha
     generalize hA : putE _ _ _ _ _ _ _ = AA
     refine q_buildM (vs := #[(0, .int .i64 t), (1, .int .i64 (c + 1)), (2, .int .i64 (min lo v)), (3, .int .i64 (max hi v))]) rfl ?_ (b_mi4 t (c + 1) (min lo v) (max hi v))
     subst hA
     kernel_rfl
   · refine er_al ?zn19 ?hn19 ?kn19 ?gn19 ?_
     case zn19 => exact (.cells z4m 23 (0, 0))
     case hn19 => exact rfl
     case kn19 => exact rfl
     case gn19 => exact gd_none rfl
     intro ρ w'
     go_simp
     exact ⟨rfl, rfl⟩
   · refine er_st (j := 14) (Ty := ?Tn20) (p := ?pn20) (x := ?xn20) ?fn20 ?zn20 ?vn20 ?hn20 ?on20 ?kn20 ?ln20 ?gn20 ?en20 ?_
     case hn20 => exact rfl
     case on20 => exact rfl
     case fn20 => exact (fun R => (.cells (miR t (c + 1) (min lo v) (max hi v)) 23 (0, 0)))
     case zn20 => exact (.cells z4m 23 (0, 0))
     case vn20 => exact (fun R => .agg (miR t (c + 1) (min lo v) (max hi v)))
     case kn20 => exact (fun R => rfl)
     case ln20 => exact rfl
     case gn20 => exact gd_none rfl
     case en20 =>
       intro R
       kernel_rfl
     intro R s ρ w g hT hs hp hx hg hz
     exact ⟨store_row rfl hp hx hz iMid (rfl) (miR_one _ _ _ _), fun w1 hF => ext_filled hT hF (Nat.le_trans EE.out.size hg)⟩
 case end20 =>
  intro sI R G w21 hI
  have hS := hI.same
  have hTT := hI.holds
  have hz0 := EE.out.size
  replace P2 := P2.sameE hS (fun h => h) (by simp)
  replace P4 := P4.sameE hS (fun h => h) (by simp)
  have P7 : Blk w21 (G 14) 23 (miR t (c + 1) (min lo v) (max hi v)) := (hI.fulls 15 (List.mem_range.2 (show 15 < 16 by decide)) 14 rfl).2.2
  have hmP7 := (hI.made 14 (List.mem_range.2 (show 14 < 16 by decide)) rfl).1
  have P7_lo : W.heap.size ≤ G 14 := Nat.le_trans hz0 hmP7
  have ngP2_7 : g0 ≠ G 14 := by omega
  have ngP4_7 : g0 + 1 ≠ G 14 := by omega
  replace EE := hide (show Ext _ _ from hTT)
  clear hS hz0 hTT hI P2_lt P4_lt
  generalize hF : putE _ _ _ _ _ _ _ = FF
  have hF2 : FF = { tmps := #[.agg (miR t c lo hi), .int .i64 v, .pointer (some ⟨g0, 0, none⟩), undef, .pointer (some ⟨g0 + 1, 0, none⟩), .slice none 0 0, .int .i64 0, .pointer (some ⟨G 14, 0, none⟩), undef, undef, .agg (miR t c lo hi), .bool true, .bool false, undef, .pointer (some ⟨g0, 1, none⟩), .int .i64 c, .bool false, undef, .pointer (some ⟨g0, 0, none⟩), .int .i64 t, .pointer (some ⟨g0, 1, none⟩), .int .i64 c, .int .i64 (c + 1), .pointer (some ⟨g0, 2, none⟩), .int .i64 lo, .int .i64 v, .int .i64 (min lo v), .pointer (some ⟨g0, 3, none⟩), .int .i64 hi, .int .i64 v, .int .i64 (max hi v), .agg (miR t (c + 1) (min lo v) (max hi v)), undef, undef, undef, undef, undef, undef, undef, undef, undef, undef, undef, undef, undef, undef, undef, undef, undef, undef, undef], defers := [] } := by subst hF; kernel_rfl
  clear hF
  subst hF2
  generalize G 14 = g7 at *
  go_upto_region 6 with fail
  have cq22_0 := fun d os => (((P2).ext (ext_regrown w21 d os)).cell 1).trans (show (miR t c lo hi)[1]? = some (.int .i64 c) from rfl)
  refine wp_region_reads ?_
  repeat (first | go_big_quiet_step (first | with_reducible exact quiet_ret (kf.out _)) | (refine wq_load (by kernel_rfl) rfl rfl (fun w hw => by obtain ⟨⟨d, os⟩, rfl⟩ := hw; exact ld_all ((P7).ext (ext_regrown w21 d os)) uMid rfl iMid rfl) ?_) | quiet_step (first | with_reducible exact quiet_ret (kf.out _)))
  refine wpQuiet_nil ?_
  intro _ hw'
  obtain ⟨⟨dq, osq⟩, hw''⟩ := hw'
  subst hw''
  replace P2 := (P2).ext (ext_regrown w21 dq osq)
  replace P4 := (P4).ext (ext_regrown w21 dq osq)
  replace P7 := (P7).ext (ext_regrown w21 dq osq)
  replace EE := hide (EE.out.trans (ext_regrown w21 dq osq))
  obtain ⟨w23, hzq22⟩ : ∃ w, grow (redrawn w21 dq) osq = w := ⟨_, rfl⟩
  rw [hzq22] at EE P2 P4 P7 ⊢
  clear hzq22 cq22_0
  go_upto_region 7 with fail
  have P2_lt := P2.lt
  have P4_lt := P4.lt
  have P7_lt := P7.lt
  refine wp_evs [.q, .so 0, .q, .q] [0, 0, 0, 0] (fun R => [.agg (miR t (c + 1) (min lo v) (max hi v)), undef, .slice none 0 0, .int .i64 0]) (fun _ => (.cells #[] 0 (0, 0))) (fun R _ => (.cells (miR t (c + 1) (min lo v) (max hi v)) 23 (0, 0))) (fun _ => g0 + 1) (XE W) (fun _ => False) (by kernel_rfl) (by kernel_rfl) (by kernel_rfl) rfl (fun _ => rfl) (fun _ h => h.elim) (fun _ _ h => h) (by intro c hc; simp at hc; (try subst hc); (try simp only); omega) (by intro c c' h1 h2 _; simp at h1 h2; omega) (fun R R' => ⟨fun _ => rfl, fun _ => rfl, fun _ => rfl, fun _ => rfl, trivial⟩) (fun _ _ _ _ => rfl) xe_below EE.out ?ops27 ?end27
  case ops27 =>
    refine ⟨?_, ?_, ?_, ?_, trivial⟩
    · refine er_q ?vn24 ?hn24 ?kn24 ?gn24 ?_
      case hn24 => exact rfl
      case vn24 => exact (fun R => .agg (miR t (c + 1) (min lo v) (max hi v)))
      case kn24 => exact (fun R => rfl)
      case gn24 => exact gd_none rfl
      intro R s w' hT hs hw ha
      have L := ld_all (P7.sameE hw (fun h => h) (by intro c hc; simp at hc; (try subst hc); (try simp only); omega)) uMid rfl iMid rfl
      generalize hA : putE _ _ _ _ _ _ _ = AA
      refine q_load rfl ?_ L
      subst hA
      kernel_rfl
    · refine er_so (c := 0) (Ty := ?Tn25) (p := ?pn25) (x := ?xn25) (g0 + 1) ?fn25 ?un25 ?vn25 ?hn25 ?on25 ?kn25 ?ln25 ?gn25 ?dn25 ?en25 ?_
      case hn25 => exact rfl
      case on25 => exact rfl
      case fn25 => exact (fun R => (.cells (miR t (c + 1) (min lo v) (max hi v)) 23 (0, 0)))
      case un25 => exact (fun R => .pointer (some ⟨g0 + 1, 0, none⟩))
      case vn25 => exact (fun R => .agg (miR t (c + 1) (min lo v) (max hi v)))
      case kn25 => exact (fun R => rfl)
      case ln25 => exact rfl
      case gn25 => exact gd_none rfl
      case dn25 =>
        intro R
        kernel_rfl
      case en25 =>
        intro R
        kernel_rfl
      intro R s ρ w hT hs hp hx hz
      refine ⟨store_rowN (g := (g0 + 1)) rfl hp hx (hz.trans P4) iMid (rfl) (rfl) (miR_one _ _ _ _), fun w1 hF => ext_filled hT hF P4_lo⟩
    · refine er_q ?vn26 ?hn26 ?kn26 ?gn26 ?_
      case hn26 => exact rfl
      case vn26 => exact (fun R => .slice none 0 0)
      case kn26 => exact (fun R => rfl)
      case gn26 => exact gd_none rfl
      intro R s w' hT hs hw ha
      go_simp
    · refine er_q ?vn27 ?hn27 ?kn27 ?gn27 ?_
      case hn27 => exact rfl
      case vn27 => exact (fun R => .int .i64 0)
      case kn27 => exact (fun R => rfl)
      case gn27 => exact gd_none rfl
      intro R s w' hT hs hw ha
      go_simp
  case end27 =>
   intro sI R G w28 hI
   have hS := hI.same
   have hTT := hI.holds
   have hz0 := EE.out.size
   replace P2 := P2.sameE hS (fun h => h) (by intro c hc; simp at hc; (try subst hc); (try simp only); omega)
   replace P7 := P7.sameE hS (fun h => h) (by intro c hc; simp at hc; (try subst hc); (try simp only); omega)
   replace P4 : Blk w28 (g0 + 1) 23 (miR t (c + 1) (min lo v) (max hi v)) := hI.olds' 1 (List.mem_range.2 (show 1 < 4 by decide)) 0 rfl
   replace EE := hide (show Ext _ _ from hTT)
   clear hS hz0 hTT hI P2_lt P4_lt P7_lt
   generalize hF : putE _ _ _ _ _ _ _ = FF
   have hF2 : FF = { tmps := #[.agg (miR t c lo hi), .int .i64 v, .pointer (some ⟨g0, 0, none⟩), undef, .pointer (some ⟨g0 + 1, 0, none⟩), .slice none 0 0, .int .i64 0, .pointer (some ⟨g7, 0, none⟩), undef, undef, .agg (miR t c lo hi), .bool true, .bool false, undef, .pointer (some ⟨g0, 1, none⟩), .int .i64 c, .bool false, undef, .pointer (some ⟨g0, 0, none⟩), .int .i64 t, .pointer (some ⟨g0, 1, none⟩), .int .i64 c, .int .i64 (c + 1), .pointer (some ⟨g0, 2, none⟩), .int .i64 lo, .int .i64 v, .int .i64 (min lo v), .pointer (some ⟨g0, 3, none⟩), .int .i64 hi, .int .i64 v, .int .i64 (max hi v), .agg (miR t (c + 1) (min lo v) (max hi v)), .pointer (some ⟨g0, 1, none⟩), .int .i64 c, .bool true, .bool true, .agg (miR t (c + 1) (min lo v) (max hi v)), .bool true, .bool true, .agg (miR t (c + 1) (min lo v) (max hi v)), undef, undef, undef, undef, undef, undef, undef, undef, undef, undef, undef], defers := [] } := by subst hF; kernel_rfl
   clear hF
   subst hF2
   go_wp2_with fail
   exact bodyPost_ret (res3 (p := 4) (u := 5) (u2 := 6) (ty := 23) rfl _ _ _ 23 (miR t (c + 1) (min lo v) (max hi v)) _ rfl P4 uMid rfl iMid) rfl ⟨by kernel_rfl, EE.out⟩
set_option maxHeartbeats 3200000 in
set_option maxRecDepth 100000 in
theorem r_stepN (t c lo hi v : Int) (W : World) (kv : Hid (∀ w, Calls Try.prog 33 #[.agg (miR t c lo hi)] w (Ret (.bool true) w))) (d1 : (c == 1073741824) = false) (wr : IntKind.i64.wrap (c + 1) = c + 1) (d2 : decide (0 < c) = true) (kf : Hid (∀ w, Calls Try.prog 39 #[.agg (miR t (c + 1) (min lo v) (max hi v))] w (Ret (.bool false) w))) (l : List (Int × Int)) (kn : Hid (∀ w, Calls Try.prog 31 #[.agg (miR t c lo hi)] w (CoFin l 0 w))) : Calls Try.prog 25 #[.agg (miR t c lo hi), .int .i64 v] W (CoStep t 1 v v l 0 W) := by
 have P2 := (Blk.new W 23 (miR t c lo hi)).alloc (.cells z4m 23)
 have P4 := Blk.new (W.alloc (.cells (miR t c lo hi) 23)) 23 z4m
 rw [alloc_size] at P4
 have EE := hide ((ext_alloc W (.cells (miR t c lo hi) 23)).trans (ext_alloc _ (.cells z4m 23)))
 obtain ⟨W1, hW1⟩ : ∃ W1, ((W.alloc (.cells (miR t c lo hi) 23)).alloc (.cells z4m 23)) = W1 := ⟨_, rfl⟩
 obtain ⟨g0, hg⟩ : ∃ g, W.heap.size = g := ⟨_, rfl⟩
 rw [hW1] at P2 P4 EE
 rw [hg] at P2 P4
 have P2_lo : W.heap.size ≤ g0 := by omega
 have P4_lo : W.heap.size ≤ g0 + 1 := by omega
 have HW := hide hW1
 have Hg := hide hg
 clear hW1 hg
 go_enter Try.func25, Try.ntmps25
 go_upto_region 1 with fail
 unfold z4m at HW
 rw [HW.out, Hg.out]
 clear HW Hg
 refine wp_region_reads ?_
 repeat (first | go_big_quiet_step (first | with_reducible exact quiet_ret (kv.out _)) | (refine wq_load (by kernel_rfl) rfl rfl (fun w hw => by obtain ⟨⟨d, os⟩, rfl⟩ := hw; exact ld_all ((P2).ext (ext_regrown W1 d os)) uMid rfl iMid rfl) ?_) | quiet_step (first | with_reducible exact quiet_ret (kv.out _)))
 refine wpQuiet_nil ?_
 intro _ hw'
 obtain ⟨⟨dq, osq⟩, hw''⟩ := hw'
 subst hw''
 replace P2 := (P2).ext (ext_regrown W1 dq osq)
 replace P4 := (P4).ext (ext_regrown W1 dq osq)
 replace EE := hide (EE.out.trans (ext_regrown W1 dq osq))
 obtain ⟨w2, hzq1⟩ : ∃ w, grow (redrawn W1 dq) osq = w := ⟨_, rfl⟩
 rw [hzq1] at EE P2 P4 ⊢
 clear hzq1
 go_upto_region 3 with fail
 have cq3_0 := fun d os => (((P2).ext (ext_regrown w2 d os)).cell 1).trans (show (miR t c lo hi)[1]? = some (.int .i64 c) from rfl)
 refine wp_region_reads ?_
 repeat (first | go_big_quiet_step (fail) | quiet_step (fail))
 refine wpQuiet_nil ?_
 intro _ hw'
 obtain ⟨⟨dq, osq⟩, hw''⟩ := hw'
 subst hw''
 replace P2 := (P2).ext (ext_regrown w2 dq osq)
 replace P4 := (P4).ext (ext_regrown w2 dq osq)
 replace EE := hide (EE.out.trans (ext_regrown w2 dq osq))
 obtain ⟨w4, hzq3⟩ : ∃ w, grow (redrawn w2 dq) osq = w := ⟨_, rfl⟩
 rw [hzq3] at EE P2 P4 ⊢
 clear hzq3 cq3_0
 go_upto_region 5 with fail
 have P2_lt := P2.lt
 have P4_lt := P4.lt
 refine wp_evs [.q, .q, .q, .q, .q, .q, .q, .q, .q, .q, .q, .q, .q, .q, .al, .st 14] [0, 0, 0, 0, 0, 0, 0, 0, 0, 0, 0, 0, 0, 0, 0, 0] (fun R => [.pointer (some ⟨g0, 0, none⟩), .int .i64 t, .pointer (some ⟨g0, 1, none⟩), .int .i64 c, .int .i64 (c + 1), .pointer (some ⟨g0, 2, none⟩), .int .i64 lo, .int .i64 v, .int .i64 (min lo v), .pointer (some ⟨g0, 3, none⟩), .int .i64 hi, .int .i64 v, .int .i64 (max hi v), .agg (miR t (c + 1) (min lo v) (max hi v)), undef, undef]) (fun _ => (.cells z4m 23 (0, 0))) (fun R _ => (.cells (miR t (c + 1) (min lo v) (max hi v)) 23 (0, 0))) (fun _ => 0) (XE W) (fun _ => False) (by kernel_rfl) (by kernel_rfl) (by kernel_rfl) rfl (fun _ => rfl) (fun _ h => h.elim) (fun _ _ h => h) (by simp) (by simp) (fun R R' => ⟨fun _ => rfl, fun _ => rfl, fun _ => rfl, fun _ => rfl, fun _ => rfl, fun _ => rfl, fun _ => rfl, fun _ => rfl, fun _ => rfl, fun _ => rfl, fun _ => rfl, fun _ => rfl, fun _ => rfl, fun _ => rfl, fun _ => rfl, fun _ => rfl, trivial⟩) (fun _ _ _ _ => rfl) xe_below EE.out ?ops20 ?end20
 case ops20 =>
   refine ⟨?_, ?_, ?_, ?_, ?_, ?_, ?_, ?_, ?_, ?_, ?_, ?_, ?_, ?_, ?_, ?_, trivial⟩
   · refine er_q ?vn5 ?hn5 ?kn5 ?gn5 ?_
     case hn5 => exact rfl
     case vn5 => exact (fun R => .pointer (some ⟨g0, 0, none⟩))
     case kn5 => exact (fun R => rfl)
     case gn5 => exact gd_none rfl
     intro R s w' hT hs hw ha
     go_simp
   · refine er_q ?vn6 ?hn6 ?kn6 ?gn6 ?_
     case hn6 => exact rfl
     case vn6 => exact (fun R => .int .i64 t)
     case kn6 => exact (fun R => rfl)
     case gn6 => exact gd_none rfl
     intro R s w' hT hs hw ha
     have cc := ((show Blk w' g0 _ (miR t c lo hi) from P2.sameE hw (fun h => h) (by simp)).cell 0).trans (show (miR t c lo hi)[0]? = some (.int .i64 t) from rfl)
     go_simp
   · refine er_q ?vn7 ?hn7 ?kn7 ?gn7 ?_
     case hn7 => exact rfl
     case vn7 => exact (fun R => .pointer (some ⟨g0, 1, none⟩))
     case kn7 => exact (fun R => rfl)
     case gn7 => exact gd_none rfl
     intro R s w' hT hs hw ha
     go_simp
   · refine er_q ?vn8 ?hn8 ?kn8 ?gn8 ?_
     case hn8 => exact rfl
     case vn8 => exact (fun R => .int .i64 c)
     case kn8 => exact (fun R => rfl)
     case gn8 => exact gd_none rfl
     intro R s w' hT hs hw ha
     have cc := ((show Blk w' g0 _ (miR t c lo hi) from P2.sameE hw (fun h => h) (by simp)).cell 1).trans (show (miR t c lo hi)[1]? = some (.int .i64 c) from rfl)
     go_simp
   · refine er_q ?vn9 ?hn9 ?kn9 ?gn9 ?_
     case hn9 => exact rfl
     case vn9 => exact (fun R => .int .i64 (c + 1))
     case kn9 => exact (fun R => rfl)
     case gn9 => exact gd_none rfl
     intro R s w' hT hs hw ha
     go_simp
   · refine er_q ?vn10 ?hn10 ?kn10 ?gn10 ?_
     case hn10 => exact rfl
     case vn10 => exact (fun R => .pointer (some ⟨g0, 2, none⟩))
     case kn10 => exact (fun R => rfl)
     case gn10 => exact gd_none rfl
     intro R s w' hT hs hw ha
     go_simp
   · refine er_q ?vn11 ?hn11 ?kn11 ?gn11 ?_
     case hn11 => exact rfl
     case vn11 => exact (fun R => .int .i64 lo)
     case kn11 => exact (fun R => rfl)
     case gn11 => exact gd_none rfl
     intro R s w' hT hs hw ha
     have cc := ((show Blk w' g0 _ (miR t c lo hi) from P2.sameE hw (fun h => h) (by simp)).cell 2).trans (show (miR t c lo hi)[2]? = some (.int .i64 lo) from rfl)
     go_simp
   · refine er_q ?vn12 ?hn12 ?kn12 ?gn12 ?_
     case hn12 => exact rfl
     case vn12 => exact (fun R => .int .i64 v)
     case kn12 => exact (fun R => rfl)
     case gn12 => exact gd_none rfl
     intro R s w' hT hs hw ha
     go_simp
   · refine er_q ?vn13 ?hn13 ?kn13 ?gn13 ?_
     case hn13 => exact rfl
     case vn13 => exact (fun R => .int .i64 (min lo v))
     case kn13 => exact (fun R => rfl)
     case gn13 => exact gd_none rfl
     intro R s w' hT hs hw ha
     go_simp
   · refine er_q ?vn14 ?hn14 ?kn14 ?gn14 ?_
     case hn14 => exact rfl
     case vn14 => exact (fun R => .pointer (some ⟨g0, 3, none⟩))
     case kn14 => exact (fun R => rfl)
     case gn14 => exact gd_none rfl
     intro R s w' hT hs hw ha
     go_simp
   · refine er_q ?vn15 ?hn15 ?kn15 ?gn15 ?_
     case hn15 => exact rfl
     case vn15 => exact (fun R => .int .i64 hi)
     case kn15 => exact (fun R => rfl)
     case gn15 => exact gd_none rfl
     intro R s w' hT hs hw ha
     have cc := ((show Blk w' g0 _ (miR t c lo hi) from P2.sameE hw (fun h => h) (by simp)).cell 3).trans (show (miR t c lo hi)[3]? = some (.int .i64 hi) from rfl)
     go_simp
   · refine er_q ?vn16 ?hn16 ?kn16 ?gn16 ?_
     case hn16 => exact rfl
     case vn16 => exact (fun R => .int .i64 v)
     case kn16 => exact (fun R => rfl)
     case gn16 => exact gd_none rfl
     intro R s w' hT hs hw ha
     go_simp
   · refine er_q ?vn17 ?hn17 ?kn17 ?gn17 ?_
     case hn17 => exact rfl
     case vn17 => exact (fun R => .int .i64 (max hi v))
     case kn17 => exact (fun R => rfl)
     case gn17 => exact gd_none rfl
     intro R s w' hT hs hw ha
     go_simp
   · refine er_q ?vn18 ?hn18 ?kn18 ?gn18 ?_
     case hn18 => exact rfl
     case vn18 => exact (fun R => .agg (miR t (c + 1) (min lo v) (max hi v)))
     case kn18 => exact (fun R => rfl)
     case gn18 => exact gd_none rfl
     intro R s w' hT hs hw ha
     generalize hA : putE _ _ _ _ _ _ _ = AA
     refine q_buildM (vs := #[(0, .int .i64 t), (1, .int .i64 (c + 1)), (2, .int .i64 (min lo v)), (3, .int .i64 (max hi v))]) rfl ?_ (b_mi4 t (c + 1) (min lo v) (max hi v))
     subst hA
     kernel_rfl
   · refine er_al ?zn19 ?hn19 ?kn19 ?gn19 ?_
     case zn19 => exact (.cells z4m 23 (0, 0))
     case hn19 => exact rfl
     case kn19 => exact rfl
     case gn19 => exact gd_none rfl
     intro ρ w'
     go_simp
     exact ⟨rfl, rfl⟩
   · refine er_st (j := 14) (Ty := ?Tn20) (p := ?pn20) (x := ?xn20) ?fn20 ?zn20 ?vn20 ?hn20 ?on20 ?kn20 ?ln20 ?gn20 ?en20 ?_
     case hn20 => exact rfl
     case on20 => exact rfl
     case fn20 => exact (fun R => (.cells (miR t (c + 1) (min lo v) (max hi v)) 23 (0, 0)))
     case zn20 => exact (.cells z4m 23 (0, 0))
     case vn20 => exact (fun R => .agg (miR t (c + 1) (min lo v) (max hi v)))
     case kn20 => exact (fun R => rfl)
     case ln20 => exact rfl
     case gn20 => exact gd_none rfl
     case en20 =>
       intro R
       kernel_rfl
     intro R s ρ w g hT hs hp hx hg hz
     exact ⟨store_row rfl hp hx hz iMid (rfl) (miR_one _ _ _ _), fun w1 hF => ext_filled hT hF (Nat.le_trans EE.out.size hg)⟩
 case end20 =>
  intro sI R G w21 hI
  have hS := hI.same
  have hTT := hI.holds
  have hz0 := EE.out.size
  replace P2 := P2.sameE hS (fun h => h) (by simp)
  replace P4 := P4.sameE hS (fun h => h) (by simp)
  have P7 : Blk w21 (G 14) 23 (miR t (c + 1) (min lo v) (max hi v)) := (hI.fulls 15 (List.mem_range.2 (show 15 < 16 by decide)) 14 rfl).2.2
  have hmP7 := (hI.made 14 (List.mem_range.2 (show 14 < 16 by decide)) rfl).1
  have P7_lo : W.heap.size ≤ G 14 := Nat.le_trans hz0 hmP7
  have ngP2_7 : g0 ≠ G 14 := by omega
  have ngP4_7 : g0 + 1 ≠ G 14 := by omega
  replace EE := hide (show Ext _ _ from hTT)
  clear hS hz0 hTT hI P2_lt P4_lt
  generalize hF : putE _ _ _ _ _ _ _ = FF
  have hF2 : FF = { tmps := #[.agg (miR t c lo hi), .int .i64 v, .pointer (some ⟨g0, 0, none⟩), undef, .pointer (some ⟨g0 + 1, 0, none⟩), .slice none 0 0, .int .i64 0, .pointer (some ⟨G 14, 0, none⟩), undef, undef, .agg (miR t c lo hi), .bool true, .bool false, undef, .pointer (some ⟨g0, 1, none⟩), .int .i64 c, .bool false, undef, .pointer (some ⟨g0, 0, none⟩), .int .i64 t, .pointer (some ⟨g0, 1, none⟩), .int .i64 c, .int .i64 (c + 1), .pointer (some ⟨g0, 2, none⟩), .int .i64 lo, .int .i64 v, .int .i64 (min lo v), .pointer (some ⟨g0, 3, none⟩), .int .i64 hi, .int .i64 v, .int .i64 (max hi v), .agg (miR t (c + 1) (min lo v) (max hi v)), undef, undef, undef, undef, undef, undef, undef, undef, undef, undef, undef, undef, undef, undef, undef, undef, undef, undef, undef], defers := [] } := by subst hF; kernel_rfl
  clear hF
  subst hF2
  generalize G 14 = g7 at *
  go_upto_region 6 with fail
  have cq22_0 := fun d os => (((P2).ext (ext_regrown w21 d os)).cell 1).trans (show (miR t c lo hi)[1]? = some (.int .i64 c) from rfl)
  refine wp_region_reads ?_
  repeat (first | go_big_quiet_step (first | with_reducible exact quiet_ret (kf.out _)) | (refine wq_load (by kernel_rfl) rfl rfl (fun w hw => by obtain ⟨⟨d, os⟩, rfl⟩ := hw; exact ld_all ((P7).ext (ext_regrown w21 d os)) uMid rfl iMid rfl) ?_) | quiet_step (first | with_reducible exact quiet_ret (kf.out _)))
  refine wpQuiet_nil ?_
  intro _ hw'
  obtain ⟨⟨dq, osq⟩, hw''⟩ := hw'
  subst hw''
  replace P2 := (P2).ext (ext_regrown w21 dq osq)
  replace P4 := (P4).ext (ext_regrown w21 dq osq)
  replace P7 := (P7).ext (ext_regrown w21 dq osq)
  replace EE := hide (EE.out.trans (ext_regrown w21 dq osq))
  obtain ⟨w23, hzq22⟩ : ∃ w, grow (redrawn w21 dq) osq = w := ⟨_, rfl⟩
  rw [hzq22] at EE P2 P4 P7 ⊢
  clear hzq22 cq22_0
  go_upto_region 8 with fail
  have ld := ld_all P2 uMid rfl iMid rfl
  have P4x := P4.lt
  have E0 := EE
  go_upto_region 9 with (first
    | (refine wl_load (by kernel_rfl) rfl rfl ld ?_)
    | (go_at_call 31; (with_reducible refine (kn.out _).mono ?_); rintro e2 w8 ⟨A8, c8, rfl, h8, E8⟩; replace P2 := P2.ext E8; replace P4 := P4.ext E8; replace EE := hide (EE.out.trans E8); have H8 := hide h8; have Q4 := P4x; have hz8 := E0.out.size; clear h8 ld))
  have E9 := EE
  clear EE
  have EE : Hid (Upd (g0 + 1) w8 w8) := Upd.refl _ _
  have P2_lt := P2.lt
  have P4_lt := P4.lt
  refine wp_evs [.q, .q, .q, .q, .q, .q, .so 0, .q, .q] [0, 0, 0, 0, 0, 0, 0, 0, 0] (fun R => [.pointer (some ⟨g0, 0, none⟩), .int .i64 t, .int .i64 v, .int .i64 v, .agg (miR t 1 v v), .slice A8 l.length c8, undef, .slice A8 l.length c8, .int .i64 0]) (fun _ => (.cells #[] 0 (0, 0))) (fun R _ => (.cells (miR t 1 v v) 23 (0, 0))) (fun _ => g0 + 1) (UE (g0 + 1) w8) (fun _ => False) (by kernel_rfl) (by kernel_rfl) (by kernel_rfl) rfl (fun _ => rfl) (fun _ h => h.elim) (fun _ _ h => h) (by intro c hc; simp at hc; (try subst hc); (try simp only); omega) (by intro c c' h1 h2 _; simp at h1 h2; omega) (fun R R' => ⟨fun _ => rfl, fun _ => rfl, fun _ => rfl, fun _ => rfl, fun _ => rfl, fun _ => rfl, fun _ => rfl, fun _ => rfl, fun _ => rfl, trivial⟩) (fun _ _ _ _ => rfl) ue_below EE.out ?ops32 ?end32
  case ops32 =>
    refine ⟨?_, ?_, ?_, ?_, ?_, ?_, ?_, ?_, ?_, trivial⟩
    · refine er_q ?vn24 ?hn24 ?kn24 ?gn24 ?_
      case hn24 => exact rfl
      case vn24 => exact (fun R => .pointer (some ⟨g0, 0, none⟩))
      case kn24 => exact (fun R => rfl)
      case gn24 => exact gd_none rfl
      intro R s w' hT hs hw ha
      go_simp
    · refine er_q ?vn25 ?hn25 ?kn25 ?gn25 ?_
      case hn25 => exact rfl
      case vn25 => exact (fun R => .int .i64 t)
      case kn25 => exact (fun R => rfl)
      case gn25 => exact gd_none rfl
      intro R s w' hT hs hw ha
      have cc := ((show Blk w' g0 _ (miR t c lo hi) from P2.sameE hw (fun h => h) (by intro c hc; simp at hc; (try subst hc); (try simp only); omega)).cell 0).trans (show (miR t c lo hi)[0]? = some (.int .i64 t) from rfl)
      go_simp
    · refine er_q ?vn26 ?hn26 ?kn26 ?gn26 ?_
      case hn26 => exact rfl
      case vn26 => exact (fun R => .int .i64 v)
      case kn26 => exact (fun R => rfl)
      case gn26 => exact gd_none rfl
      intro R s w' hT hs hw ha
      go_simp
    · refine er_q ?vn27 ?hn27 ?kn27 ?gn27 ?_
      case hn27 => exact rfl
      case vn27 => exact (fun R => .int .i64 v)
      case kn27 => exact (fun R => rfl)
      case gn27 => exact gd_none rfl
      intro R s w' hT hs hw ha
      go_simp
    · refine er_q ?vn28 ?hn28 ?kn28 ?gn28 ?_
      case hn28 => exact rfl
      case vn28 => exact (fun R => .agg (miR t 1 v v))
      case kn28 => exact (fun R => rfl)
      case gn28 => exact gd_none rfl
      intro R s w' hT hs hw ha
      generalize hA : putE _ _ _ _ _ _ _ = AA
      refine q_buildM (vs := #[(0, .int .i64 t), (1, .int .i64 1), (2, .int .i64 v), (3, .int .i64 v)]) rfl ?_ (b_mi4 t 1 v v)
      subst hA
      kernel_rfl
    · refine er_q ?vn29 ?hn29 ?kn29 ?gn29 ?_
      case hn29 => exact rfl
      case vn29 => exact (fun R => .slice A8 l.length c8)
      case kn29 => exact (fun R => rfl)
      case gn29 => exact gd_none rfl
      intro R s w' hT hs hw ha
      go_simp
    · refine er_so (c := 0) (Ty := ?Tn30) (p := ?pn30) (x := ?xn30) (g0 + 1) ?fn30 ?un30 ?vn30 ?hn30 ?on30 ?kn30 ?ln30 ?gn30 ?dn30 ?en30 ?_
      case hn30 => exact rfl
      case on30 => exact rfl
      case fn30 => exact (fun R => (.cells (miR t 1 v v) 23 (0, 0)))
      case un30 => exact (fun R => .pointer (some ⟨g0 + 1, 0, none⟩))
      case vn30 => exact (fun R => .agg (miR t 1 v v))
      case kn30 => exact (fun R => rfl)
      case ln30 => exact rfl
      case gn30 => exact gd_none rfl
      case dn30 =>
        intro R
        kernel_rfl
      case en30 =>
        intro R
        kernel_rfl
      intro R s ρ w hT hs hp hx hz
      refine ⟨store_rowN (g := (g0 + 1)) rfl hp hx (hz.trans P4) iMid (rfl) (rfl) (miR_one _ _ _ _), fun w1 hF => ue_self hT hF⟩
    · refine er_q ?vn31 ?hn31 ?kn31 ?gn31 ?_
      case hn31 => exact rfl
      case vn31 => exact (fun R => .slice A8 l.length c8)
      case kn31 => exact (fun R => rfl)
      case gn31 => exact gd_none rfl
      intro R s w' hT hs hw ha
      go_simp
    · refine er_q ?vn32 ?hn32 ?kn32 ?gn32 ?_
      case hn32 => exact rfl
      case vn32 => exact (fun R => .int .i64 0)
      case kn32 => exact (fun R => rfl)
      case gn32 => exact gd_none rfl
      intro R s w' hT hs hw ha
      go_simp
  case end32 =>
   intro sI R G w33 hI
   have hS := hI.same
   have hTT := hI.holds
   have hz0 := EE.out.2.2.2.1
   replace P2 := P2.sameE hS (fun h => h) (by intro c hc; simp at hc; (try subst hc); (try simp only); omega)
   replace P4 : Blk w33 (g0 + 1) 23 (miR t 1 v v) := hI.olds' 6 (List.mem_range.2 (show 6 < 9 by decide)) 0 rfl
   replace EE := hide (show Upd (g0 + 1) _ _ from hTT)
   clear hS hz0 hTT hI P2_lt P4_lt
   generalize hF : putE _ _ _ _ _ _ _ = FF
   have hF2 : FF = { tmps := #[.agg (miR t c lo hi), .int .i64 v, .pointer (some ⟨g0, 0, none⟩), undef, .pointer (some ⟨g0 + 1, 0, none⟩), .slice A8 l.length c8, .int .i64 0, .pointer (some ⟨g7, 0, none⟩), .slice A8 l.length c8, .int .i64 0, .agg (miR t c lo hi), .bool true, .bool false, undef, .pointer (some ⟨g0, 1, none⟩), .int .i64 c, .bool false, undef, .pointer (some ⟨g0, 0, none⟩), .int .i64 t, .pointer (some ⟨g0, 1, none⟩), .int .i64 c, .int .i64 (c + 1), .pointer (some ⟨g0, 2, none⟩), .int .i64 lo, .int .i64 v, .int .i64 (min lo v), .pointer (some ⟨g0, 3, none⟩), .int .i64 hi, .int .i64 v, .int .i64 (max hi v), .agg (miR t (c + 1) (min lo v) (max hi v)), .pointer (some ⟨g0, 1, none⟩), .int .i64 c, .bool true, .bool true, .agg (miR t (c + 1) (min lo v) (max hi v)), .bool false, .bool false, undef, .tuple #[.slice A8 l.length c8, .int .i64 0], .agg (miR t c lo hi), .tuple #[.slice A8 l.length c8, .int .i64 0], .slice A8 l.length c8, .int .i64 0, .pointer (some ⟨g0, 0, none⟩), .int .i64 t, .int .i64 v, .int .i64 v, .agg (miR t 1 v v), .slice A8 l.length c8], defers := [] } := by subst hF; kernel_rfl
   clear hF
   subst hF2
   go_wp2_with fail
   exact bodyPost_ret (res3 (p := 4) (u := 5) (u2 := 6) (ty := 23) rfl _ _ _ 23 (miR t 1 v v) _ rfl P4 uMid rfl iMid) rfl ⟨A8, c8, by kernel_rfl, (H8.out.upd EE.out Q4).less hz8, Upd.ext EE.out E9.out P4_lo⟩
set_option maxHeartbeats 3200000 in
set_option maxRecDepth 100000 in
theorem r_step0 (t c lo hi v : Int) (W : World) (kv : Hid (∀ w, Calls Try.prog 33 #[.agg (miR t c lo hi)] w (Ret (.bool true) w))) (d1 : (c == 1073741824) = false) (wr : IntKind.i64.wrap (c + 1) = c + 1) (d2 : decide (0 < c) = false) (l : List (Int × Int)) (kn : Hid (∀ w, Calls Try.prog 31 #[.agg (miR t c lo hi)] w (CoFin l 0 w))) : Calls Try.prog 25 #[.agg (miR t c lo hi), .int .i64 v] W (CoStep t 1 v v l 0 W) := by
 have P2 := (Blk.new W 23 (miR t c lo hi)).alloc (.cells z4m 23)
 have P4 := Blk.new (W.alloc (.cells (miR t c lo hi) 23)) 23 z4m
 rw [alloc_size] at P4
 have EE := hide ((ext_alloc W (.cells (miR t c lo hi) 23)).trans (ext_alloc _ (.cells z4m 23)))
 obtain ⟨W1, hW1⟩ : ∃ W1, ((W.alloc (.cells (miR t c lo hi) 23)).alloc (.cells z4m 23)) = W1 := ⟨_, rfl⟩
 obtain ⟨g0, hg⟩ : ∃ g, W.heap.size = g := ⟨_, rfl⟩
 rw [hW1] at P2 P4 EE
 rw [hg] at P2 P4
 have P2_lo : W.heap.size ≤ g0 := by omega
 have P4_lo : W.heap.size ≤ g0 + 1 := by omega
 have HW := hide hW1
 have Hg := hide hg
 clear hW1 hg
 go_enter Try.func25, Try.ntmps25
 go_upto_region 1 with fail
 unfold z4m at HW
 rw [HW.out, Hg.out]
 clear HW Hg
 refine wp_region_reads ?_
 repeat (first | go_big_quiet_step (first | with_reducible exact quiet_ret (kv.out _)) | (refine wq_load (by kernel_rfl) rfl rfl (fun w hw => by obtain ⟨⟨d, os⟩, rfl⟩ := hw; exact ld_all ((P2).ext (ext_regrown W1 d os)) uMid rfl iMid rfl) ?_) | quiet_step (first | with_reducible exact quiet_ret (kv.out _)))
 refine wpQuiet_nil ?_
 intro _ hw'
 obtain ⟨⟨dq, osq⟩, hw''⟩ := hw'
 subst hw''
 replace P2 := (P2).ext (ext_regrown W1 dq osq)
 replace P4 := (P4).ext (ext_regrown W1 dq osq)
 replace EE := hide (EE.out.trans (ext_regrown W1 dq osq))
 obtain ⟨w2, hzq1⟩ : ∃ w, grow (redrawn W1 dq) osq = w := ⟨_, rfl⟩
 rw [hzq1] at EE P2 P4 ⊢
 clear hzq1
 go_upto_region 3 with fail
 have cq3_0 := fun d os => (((P2).ext (ext_regrown w2 d os)).cell 1).trans (show (miR t c lo hi)[1]? = some (.int .i64 c) from rfl)
 refine wp_region_reads ?_
 repeat (first | go_big_quiet_step (fail) | quiet_step (fail))
 refine wpQuiet_nil ?_
 intro _ hw'
 obtain ⟨⟨dq, osq⟩, hw''⟩ := hw'
 subst hw''
 replace P2 := (P2).ext (ext_regrown w2 dq osq)
 replace P4 := (P4).ext (ext_regrown w2 dq osq)
 replace EE := hide (EE.out.trans (ext_regrown w2 dq osq))
 obtain ⟨w4, hzq3⟩ : ∃ w, grow (redrawn w2 dq) osq = w := ⟨_, rfl⟩
 rw [hzq3] at EE P2 P4 ⊢
 clear hzq3 cq3_0
 go_upto_region 5 with fail
 have P2_lt := P2.lt
 have P4_lt := P4.lt
 refine wp_evs [.q, .q, .q, .q, .q, .q, .q, .q, .q, .q, .q, .q, .q, .q, .al, .st 14] [0, 0, 0, 0, 0, 0, 0, 0, 0, 0, 0, 0, 0, 0, 0, 0] (fun R => [.pointer (some ⟨g0, 0, none⟩), .int .i64 t, .pointer (some ⟨g0, 1, none⟩), .int .i64 c, .int .i64 (c + 1), .pointer (some ⟨g0, 2, none⟩), .int .i64 lo, .int .i64 v, .int .i64 (min lo v), .pointer (some ⟨g0, 3, none⟩), .int .i64 hi, .int .i64 v, .int .i64 (max hi v), .agg (miR t (c + 1) (min lo v) (max hi v)), undef, undef]) (fun _ => (.cells z4m 23 (0, 0))) (fun R _ => (.cells (miR t (c + 1) (min lo v) (max hi v)) 23 (0, 0))) (fun _ => 0) (XE W) (fun _ => False) (by kernel_rfl) (by kernel_rfl) (by kernel_rfl) rfl (fun _ => rfl) (fun _ h => h.elim) (fun _ _ h => h) (by simp) (by simp) (fun R R' => ⟨fun _ => rfl, fun _ => rfl, fun _ => rfl, fun _ => rfl, fun _ => rfl, fun _ => rfl, fun _ => rfl, fun _ => rfl, fun _ => rfl, fun _ => rfl, fun _ => rfl, fun _ => rfl, fun _ => rfl, fun _ => rfl, fun _ => rfl, fun _ => rfl, trivial⟩) (fun _ _ _ _ => rfl) xe_below EE.out ?ops20 ?end20
 case ops20 =>
   refine ⟨?_, ?_, ?_, ?_, ?_, ?_, ?_, ?_, ?_, ?_, ?_, ?_, ?_, ?_, ?_, ?_, trivial⟩
   · refine er_q ?vn5 ?hn5 ?kn5 ?gn5 ?_
     case hn5 => exact rfl
     case vn5 => exact (fun R => .pointer (some ⟨g0, 0, none⟩))
     case kn5 => exact (fun R => rfl)
     case gn5 => exact gd_none rfl
     intro R s w' hT hs hw ha
     go_simp
   · refine er_q ?vn6 ?hn6 ?kn6 ?gn6 ?_
     case hn6 => exact rfl
     case vn6 => exact (fun R => .int .i64 t)
     case kn6 => exact (fun R => rfl)
     case gn6 => exact gd_none rfl
     intro R s w' hT hs hw ha
     have cc := ((show Blk w' g0 _ (miR t c lo hi) from P2.sameE hw (fun h => h) (by simp)).cell 0).trans (show (miR t c lo hi)[0]? = some (.int .i64 t) from rfl)
     go_simp
   · refine er_q ?vn7 ?hn7 ?kn7 ?gn7 ?_
     case hn7 => exact rfl
     case vn7 => exact (fun R => .pointer (some ⟨g0, 1, none⟩))
     case kn7 => exact (fun R => rfl)
     case gn7 => exact gd_none rfl
     intro R s w' hT hs hw ha
     go_simp
   · refine er_q ?vn8 ?hn8 ?kn8 ?gn8 ?_
     case hn8 => exact rfl
     case vn8 => exact (fun R => .int .i64 c)
     case kn8 => exact (fun R => rfl)
     case gn8 => exact gd_none rfl
     intro R s w' hT hs hw ha
     have cc := ((show Blk w' g0 _ (miR t c lo hi) from P2.sameE hw (fun h => h) (by simp)).cell 1).trans (show (miR t c lo hi)[1]? = some (.int .i64 c) from rfl)
     go_simp
   · refine er_q ?vn9 ?hn9 ?kn9 ?gn9 ?_
     case hn9 => exact rfl
     case vn9 => exact (fun R => .int .i64 (c + 1))
     case kn9 => exact (fun R => rfl)
     case gn9 => exact gd_none rfl
     intro R s w' hT hs hw ha
     go_simp
   · refine er_q ?vn10 ?hn10 ?kn10 ?gn10 ?_
     case hn10 => exact rfl
     case vn10 => exact (fun R => .pointer (some ⟨g0, 2, none⟩))
     case kn10 => exact (fun R => rfl)
     case gn10 => exact gd_none rfl
     intro R s w' hT hs hw ha
     go_simp
   · refine er_q ?vn11 ?hn11 ?kn11 ?gn11 ?_
     case hn11 => exact rfl
     case vn11 => exact (fun R => .int .i64 lo)
     case kn11 => exact (fun R => rfl)
     case gn11 => exact gd_none rfl
     intro R s w' hT hs hw ha
     have cc := ((show Blk w' g0 _ (miR t c lo hi) from P2.sameE hw (fun h => h) (by simp)).cell 2).trans (show (miR t c lo hi)[2]? = some (.int .i64 lo) from rfl)
     go_simp
   · refine er_q ?vn12 ?hn12 ?kn12 ?gn12 ?_
     case hn12 => exact rfl
     case vn12 => exact (fun R => .int .i64 v)
     case kn12 => exact (fun R => rfl)
     case gn12 => exact gd_none rfl
     intro R s w' hT hs hw ha
     go_simp
   · refine er_q ?vn13 ?hn13 ?kn13 ?gn13 ?_
     case hn13 => exact rfl
     case vn13 => exact (fun R => .int .i64 (min lo v))
     case kn13 => exact (fun R => rfl)
     case gn13 => exact gd_none rfl
     intro R s w' hT hs hw ha
     go_simp
   · refine er_q ?vn14 ?hn14 ?kn14 ?gn14 ?_
     case hn14 => exact rfl
     case vn14 => exact (fun R => .pointer (some ⟨g0, 3, none⟩))
     case kn14 => exact (fun R => rfl)
     case gn14 => exact gd_none rfl
     intro R s w' hT hs hw ha
     go_simp
   · refine er_q ?vn15 ?hn15 ?kn15 ?gn15 ?_
     case hn15 => exact rfl
     case vn15 => exact (fun R => .int .i64 hi)
     case kn15 => exact (fun R => rfl)
     case gn15 => exact gd_none rfl
     intro R s w' hT hs hw ha
     have cc := ((show Blk w' g0 _ (miR t c lo hi) from P2.sameE hw (fun h => h) (by simp)).cell 3).trans (show (miR t c lo hi)[3]? = some (.int .i64 hi) from rfl)
     go_simp
   · refine er_q ?vn16 ?hn16 ?kn16 ?gn16 ?_
     case hn16 => exact rfl
     case vn16 => exact (fun R => .int .i64 v)
     case kn16 => exact (fun R => rfl)
     case gn16 => exact gd_none rfl
     intro R s w' hT hs hw ha
     go_simp
   · refine er_q ?vn17 ?hn17 ?kn17 ?gn17 ?_
     case hn17 => exact rfl
     case vn17 => exact (fun R => .int .i64 (max hi v))
     case kn17 => exact (fun R => rfl)
     case gn17 => exact gd_none rfl
     intro R s w' hT hs hw ha
     go_simp
   · refine er_q ?vn18 ?hn18 ?kn18 ?gn18 ?_
     case hn18 => exact rfl
     case vn18 => exact (fun R => .agg (miR t (c + 1) (min lo v) (max hi v)))
     case kn18 => exact (fun R => rfl)
     case gn18 => exact gd_none rfl
     intro R s w' hT hs hw ha
     generalize hA : putE _ _ _ _ _ _ _ = AA
     refine q_buildM (vs := #[(0, .int .i64 t), (1, .int .i64 (c + 1)), (2, .int .i64 (min lo v)), (3, .int .i64 (max hi v))]) rfl ?_ (b_mi4 t (c + 1) (min lo v) (max hi v))
     subst hA
     kernel_rfl
   · refine er_al ?zn19 ?hn19 ?kn19 ?gn19 ?_
     case zn19 => exact (.cells z4m 23 (0, 0))
     case hn19 => exact rfl
     case kn19 => exact rfl
     case gn19 => exact gd_none rfl
     intro ρ w'
     go_simp
     exact ⟨rfl, rfl⟩
   · refine er_st (j := 14) (Ty := ?Tn20) (p := ?pn20) (x := ?xn20) ?fn20 ?zn20 ?vn20 ?hn20 ?on20 ?kn20 ?ln20 ?gn20 ?en20 ?_
     case hn20 => exact rfl
     case on20 => exact rfl
     case fn20 => exact (fun R => (.cells (miR t (c + 1) (min lo v) (max hi v)) 23 (0, 0)))
     case zn20 => exact (.cells z4m 23 (0, 0))
     case vn20 => exact (fun R => .agg (miR t (c + 1) (min lo v) (max hi v)))
     case kn20 => exact (fun R => rfl)
     case ln20 => exact rfl
     case gn20 => exact gd_none rfl
     case en20 =>
       intro R
       kernel_rfl
     intro R s ρ w g hT hs hp hx hg hz
     exact ⟨store_row rfl hp hx hz iMid (rfl) (miR_one _ _ _ _), fun w1 hF => ext_filled hT hF (Nat.le_trans EE.out.size hg)⟩
 case end20 =>
  intro sI R G w21 hI
  have hS := hI.same
  have hTT := hI.holds
  have hz0 := EE.out.size
  replace P2 := P2.sameE hS (fun h => h) (by simp)
  replace P4 := P4.sameE hS (fun h => h) (by simp)
  have P7 : Blk w21 (G 14) 23 (miR t (c + 1) (min lo v) (max hi v)) := (hI.fulls 15 (List.mem_range.2 (show 15 < 16 by decide)) 14 rfl).2.2
  have hmP7 := (hI.made 14 (List.mem_range.2 (show 14 < 16 by decide)) rfl).1
  have P7_lo : W.heap.size ≤ G 14 := Nat.le_trans hz0 hmP7
  have ngP2_7 : g0 ≠ G 14 := by omega
  have ngP4_7 : g0 + 1 ≠ G 14 := by omega
  replace EE := hide (show Ext _ _ from hTT)
  clear hS hz0 hTT hI P2_lt P4_lt
  generalize hF : putE _ _ _ _ _ _ _ = FF
  have hF2 : FF = { tmps := #[.agg (miR t c lo hi), .int .i64 v, .pointer (some ⟨g0, 0, none⟩), undef, .pointer (some ⟨g0 + 1, 0, none⟩), .slice none 0 0, .int .i64 0, .pointer (some ⟨G 14, 0, none⟩), undef, undef, .agg (miR t c lo hi), .bool true, .bool false, undef, .pointer (some ⟨g0, 1, none⟩), .int .i64 c, .bool false, undef, .pointer (some ⟨g0, 0, none⟩), .int .i64 t, .pointer (some ⟨g0, 1, none⟩), .int .i64 c, .int .i64 (c + 1), .pointer (some ⟨g0, 2, none⟩), .int .i64 lo, .int .i64 v, .int .i64 (min lo v), .pointer (some ⟨g0, 3, none⟩), .int .i64 hi, .int .i64 v, .int .i64 (max hi v), .agg (miR t (c + 1) (min lo v) (max hi v)), undef, undef, undef, undef, undef, undef, undef, undef, undef, undef, undef, undef, undef, undef, undef, undef, undef, undef, undef], defers := [] } := by subst hF; kernel_rfl
  clear hF
  subst hF2
  generalize G 14 = g7 at *
  go_upto_region 6 with fail
  have cq22_0 := fun d os => (((P2).ext (ext_regrown w21 d os)).cell 1).trans (show (miR t c lo hi)[1]? = some (.int .i64 c) from rfl)
  refine wp_region_reads ?_
  repeat (first | go_big_quiet_step (fail) | quiet_step (fail))
  refine wpQuiet_nil ?_
  intro _ hw'
  obtain ⟨⟨dq, osq⟩, hw''⟩ := hw'
  subst hw''
  replace P2 := (P2).ext (ext_regrown w21 dq osq)
  replace P4 := (P4).ext (ext_regrown w21 dq osq)
  replace P7 := (P7).ext (ext_regrown w21 dq osq)
  replace EE := hide (EE.out.trans (ext_regrown w21 dq osq))
  obtain ⟨w23, hzq22⟩ : ∃ w, grow (redrawn w21 dq) osq = w := ⟨_, rfl⟩
  rw [hzq22] at EE P2 P4 P7 ⊢
  clear hzq22 cq22_0
  go_upto_region 8 with fail
  have ld := ld_all P2 uMid rfl iMid rfl
  have P4x := P4.lt
  have E0 := EE
  go_upto_region 9 with (first
    | (refine wl_load (by kernel_rfl) rfl rfl ld ?_)
    | (go_at_call 31; (with_reducible refine (kn.out _).mono ?_); rintro e2 w8 ⟨A8, c8, rfl, h8, E8⟩; replace P2 := P2.ext E8; replace P4 := P4.ext E8; replace EE := hide (EE.out.trans E8); have H8 := hide h8; have Q4 := P4x; have hz8 := E0.out.size; clear h8 ld))
  have E9 := EE
  clear EE
  have EE : Hid (Upd (g0 + 1) w8 w8) := Upd.refl _ _
  have P2_lt := P2.lt
  have P4_lt := P4.lt
  refine wp_evs [.q, .q, .q, .q, .q, .q, .so 0, .q, .q] [0, 0, 0, 0, 0, 0, 0, 0, 0] (fun R => [.pointer (some ⟨g0, 0, none⟩), .int .i64 t, .int .i64 v, .int .i64 v, .agg (miR t 1 v v), .slice A8 l.length c8, undef, .slice A8 l.length c8, .int .i64 0]) (fun _ => (.cells #[] 0 (0, 0))) (fun R _ => (.cells (miR t 1 v v) 23 (0, 0))) (fun _ => g0 + 1) (UE (g0 + 1) w8) (fun _ => False) (by kernel_rfl) (by kernel_rfl) (by kernel_rfl) rfl (fun _ => rfl) (fun _ h => h.elim) (fun _ _ h => h) (by intro c hc; simp at hc; (try subst hc); (try simp only); omega) (by intro c c' h1 h2 _; simp at h1 h2; omega) (fun R R' => ⟨fun _ => rfl, fun _ => rfl, fun _ => rfl, fun _ => rfl, fun _ => rfl, fun _ => rfl, fun _ => rfl, fun _ => rfl, fun _ => rfl, trivial⟩) (fun _ _ _ _ => rfl) ue_below EE.out ?ops32 ?end32
  case ops32 =>
    refine ⟨?_, ?_, ?_, ?_, ?_, ?_, ?_, ?_, ?_, trivial⟩
    · refine er_q ?vn24 ?hn24 ?kn24 ?gn24 ?_
      case hn24 => exact rfl
      case vn24 => exact (fun R => .pointer (some ⟨g0, 0, none⟩))
      case kn24 => exact (fun R => rfl)
      case gn24 => exact gd_none rfl
      intro R s w' hT hs hw ha
      go_simp
    · refine er_q ?vn25 ?hn25 ?kn25 ?gn25 ?_
      case hn25 => exact rfl
      case vn25 => exact (fun R => .int .i64 t)
      case kn25 => exact (fun R => rfl)
      case gn25 => exact gd_none rfl
      intro R s w' hT hs hw ha
      have cc := ((show Blk w' g0 _ (miR t c lo hi) from P2.sameE hw (fun h => h) (by intro c hc; simp at hc; (try subst hc); (try simp only); omega)).cell 0).trans (show (miR t c lo hi)[0]? = some (.int .i64 t) from rfl)
      go_simp
    · refine er_q ?vn26 ?hn26 ?kn26 ?gn26 ?_
      case hn26 => exact rfl
      case vn26 => exact (fun R => .int .i64 v)
      case kn26 => exact (fun R => rfl)
      case gn26 => exact gd_none rfl
      intro R s w' hT hs hw ha
      go_simp
    · refine er_q ?vn27 ?hn27 ?kn27 ?gn27 ?_
      case hn27 => exact rfl
      case vn27 => exact (fun R => .int .i64 v)
      case kn27 => exact (fun R => rfl)
      case gn27 => exact gd_none rfl
      intro R s w' hT hs hw ha
      go_simp
    · refine er_q ?vn28 ?hn28 ?kn28 ?gn28 ?_
      case hn28 => exact rfl
      case vn28 => exact (fun R => .agg (miR t 1 v v))
      case kn28 => exact (fun R => rfl)
      case gn28 => exact gd_none rfl
      intro R s w' hT hs hw ha
      generalize hA : putE _ _ _ _ _ _ _ = AA
      refine q_buildM (vs := #[(0, .int .i64 t), (1, .int .i64 1), (2, .int .i64 v), (3, .int .i64 v)]) rfl ?_ (b_mi4 t 1 v v)
      subst hA
      kernel_rfl
    · refine er_q ?vn29 ?hn29 ?kn29 ?gn29 ?_
      case hn29 => exact rfl
      case vn29 => exact (fun R => .slice A8 l.length c8)
      case kn29 => exact (fun R => rfl)
      case gn29 => exact gd_none rfl
      intro R s w' hT hs hw ha
      go_simp
    · refine er_so (c := 0) (Ty := ?Tn30) (p := ?pn30) (x := ?xn30) (g0 + 1) ?fn30 ?un30 ?vn30 ?hn30 ?on30 ?kn30 ?ln30 ?gn30 ?dn30 ?en30 ?_
      case hn30 => exact rfl
      case on30 => exact rfl
      case fn30 => exact (fun R => (.cells (miR t 1 v v) 23 (0, 0)))
      case un30 => exact (fun R => .pointer (some ⟨g0 + 1, 0, none⟩))
      case vn30 => exact (fun R => .agg (miR t 1 v v))
      case kn30 => exact (fun R => rfl)
      case ln30 => exact rfl
      case gn30 => exact gd_none rfl
      case dn30 =>
        intro R
        kernel_rfl
      case en30 =>
        intro R
        kernel_rfl
      intro R s ρ w hT hs hp hx hz
      refine ⟨store_rowN (g := (g0 + 1)) rfl hp hx (hz.trans P4) iMid (rfl) (rfl) (miR_one _ _ _ _), fun w1 hF => ue_self hT hF⟩
    · refine er_q ?vn31 ?hn31 ?kn31 ?gn31 ?_
      case hn31 => exact rfl
      case vn31 => exact (fun R => .slice A8 l.length c8)
      case kn31 => exact (fun R => rfl)
      case gn31 => exact gd_none rfl
      intro R s w' hT hs hw ha
      go_simp
    · refine er_q ?vn32 ?hn32 ?kn32 ?gn32 ?_
      case hn32 => exact rfl
      case vn32 => exact (fun R => .int .i64 0)
      case kn32 => exact (fun R => rfl)
      case gn32 => exact gd_none rfl
      intro R s w' hT hs hw ha
      go_simp
  case end32 =>
   intro sI R G w33 hI
   have hS := hI.same
   have hTT := hI.holds
   have hz0 := EE.out.2.2.2.1
   replace P2 := P2.sameE hS (fun h => h) (by intro c hc; simp at hc; (try subst hc); (try simp only); omega)
   replace P4 : Blk w33 (g0 + 1) 23 (miR t 1 v v) := hI.olds' 6 (List.mem_range.2 (show 6 < 9 by decide)) 0 rfl
   replace EE := hide (show Upd (g0 + 1) _ _ from hTT)
   clear hS hz0 hTT hI P2_lt P4_lt
   generalize hF : putE _ _ _ _ _ _ _ = FF
   have hF2 : FF = { tmps := #[.agg (miR t c lo hi), .int .i64 v, .pointer (some ⟨g0, 0, none⟩), undef, .pointer (some ⟨g0 + 1, 0, none⟩), .slice A8 l.length c8, .int .i64 0, .pointer (some ⟨g7, 0, none⟩), .slice A8 l.length c8, .int .i64 0, .agg (miR t c lo hi), .bool true, .bool false, undef, .pointer (some ⟨g0, 1, none⟩), .int .i64 c, .bool false, undef, .pointer (some ⟨g0, 0, none⟩), .int .i64 t, .pointer (some ⟨g0, 1, none⟩), .int .i64 c, .int .i64 (c + 1), .pointer (some ⟨g0, 2, none⟩), .int .i64 lo, .int .i64 v, .int .i64 (min lo v), .pointer (some ⟨g0, 3, none⟩), .int .i64 hi, .int .i64 v, .int .i64 (max hi v), .agg (miR t (c + 1) (min lo v) (max hi v)), .pointer (some ⟨g0, 1, none⟩), .int .i64 c, .bool false, .bool false, undef, undef, .bool false, undef, .tuple #[.slice A8 l.length c8, .int .i64 0], .agg (miR t c lo hi), .tuple #[.slice A8 l.length c8, .int .i64 0], .slice A8 l.length c8, .int .i64 0, .pointer (some ⟨g0, 0, none⟩), .int .i64 t, .int .i64 v, .int .i64 v, .agg (miR t 1 v v), .slice A8 l.length c8], defers := [] } := by subst hF; kernel_rfl
   clear hF
   subst hF2
   go_wp2_with fail
   exact bodyPost_ret (res3 (p := 4) (u := 5) (u2 := 6) (ty := 23) rfl _ _ _ 23 (miR t 1 v v) _ rfl P4 uMid rfl iMid) rfl ⟨A8, c8, by kernel_rfl, (H8.out.upd EE.out Q4).less hz8, Upd.ext EE.out E9.out P4_lo⟩
end
section
open Go Go.RowKit Go.Sort
def sgF : Array Value := #[.func (.func 45) #[] #[], .func (.func 46) #[] #[], .func (.func 41) #[] #[]]
theorem uSgm : Try.prog.underlying 75 = some (.struct (Try.prog.fieldsOf 75)) := by kernel_rfl
theorem iSgm : (Try.prog.info? 75).map (·.size) = some 3 := by kernel_rfl
theorem p_middles (W : World) : Calls Try.prog 36 #[] W (Ret (.agg sgF) W) := by
 go_enter Try.func36, Try.ntmps36
 go_wp2_with fail
 exact bodyPost_ret (results_cell_row (p := 0) (ty := 75) rfl _ _ _ 75 sgF (0, 0) _ rfl (Blk.new _ _ _) uSgm rfl iSgm) rfl ⟨rfl, ext_alloc _ _⟩
theorem p_begin (t c lo hi v : Int) (W : World) : Calls Try.prog 46 #[.agg (miR t c lo hi), .int .i64 v] W (Ret (.agg (miR t 1 v v)) W) := by
 unfold miR
 have P1 := Blk.new (W.alloc (.cells #[.int .i64 t, .int .i64 c, .int .i64 lo, .int .i64 hi] 23)) 23 #[.int .i64 t, .int .i64 1, .int .i64 v, .int .i64 v]
 rw [alloc_size] at P1
 go_enter Try.func46, Try.ntmps46
 go_wp2_with fail
 exact bodyPost_ret (results_cell_row (p := 4) (ty := 23) rfl _ _ _ 23 #[.int .i64 t, .int .i64 1, .int .i64 v, .int .i64 v] (0, 0) _ rfl P1 uMid rfl iMid) rfl ⟨rfl, (ext_alloc _ _).trans (ext_alloc _ _)⟩
theorem one_co {w : World} {B : Nat} {c m : Int} (hc : I64 c) (hm : I64 m) (hB : B ≤ w.heap.size) : OwnC B (w.alloc (.cells #[.int .i64 c, .int .i64 m] 46)) (.slice (some ⟨w.heap.size, 0, none⟩) 1 1) [(c, m)] := by
 refine ⟨⟨rfl, Or.inr ⟨w.heap.size, 1, _, rfl, hB, heap_alloc_new w _, Nat.le_refl _, by unfold maxLen; omega, rfl, rfl⟩⟩, IsS.one hc hm⟩
theorem p_endM (t c lo hi : Int) (W : World) (hl : I64 lo) (hh : I64 hi) (hc : I64 c) : Calls Try.prog 41 #[.agg (miR t c lo hi)] W (CoGet (endL c lo hi) W) := by
 have KM := hide (fun w => p_mid lo hi w hl hh)
 have im : I64 ((lo + hi) / 2) := by unfold I64 at *; omega
 obtain ⟨m, hm⟩ : ∃ m, (lo + hi) / 2 = m := ⟨_, rfl⟩
 unfold endL
 rw [hm] at KM im ⊢
 clear hm hl hh
 unfold miR
 by_cases h0 : c = 0
 · have d0 : (c == 0) = true := by rw [beq_iff_eq]; exact h0
   rw [if_pos h0]
   clear h0
   go_enter Try.func41, Try.ntmps41
   go_wp2_with fail
   go_ret
   exact ⟨none, 0, rfl, OwnC.nil_ _ _, ext_alloc _ _⟩
 · have d0 : (c == 0) = false := by rw [beq_eq_false_iff_ne]; exact h0
   rw [if_neg h0]
   have O1 := hide (one_co (w := W.alloc (.cells #[.int .i64 t, .int .i64 c, .int .i64 lo, .int .i64 hi] 23)) (B := W.heap.size) hc im (ext_alloc _ _).size)
   rw [alloc_size] at O1
   clear h0
   go_enter Try.func41, Try.ntmps41
   go_upto_region 3 with fail
   go_region_law (go_simp; go_at_call 48; (with_reducible refine (KM.out _).mono ?_); rintro e w1 ⟨rfl, rfl⟩)
   all_goals go_wp2_with fail
   all_goals go_ret
   all_goals exact ⟨_, 1, rfl, O1.out.drew, ((ext_alloc _ _).trans (ext_alloc _ _)).trans (ext_drew _)⟩
theorem r_finY (t c lo hi : Int) (W : World) (hl : I64 lo) (hh : I64 hi) (hc : I64 c) (hle : lo ≤ hi) (kv : Hid (∀ w, Calls Try.prog 33 #[.agg (miR t c lo hi)] w (Ret (.bool true) w))) : Calls Try.prog 31 #[.agg (miR t c lo hi)] W (CoFin (endL c lo hi) 0 W) := by
 have KM := hide (fun w => r_mid lo hi w hl hh hle)
 have im : I64 ((lo + hi) / 2) := by unfold I64 at *; omega
 obtain ⟨m, hm⟩ : ∃ m, (lo + hi) / 2 = m := ⟨_, rfl⟩
 unfold endL
 rw [hm] at KM im ⊢
 clear hm hl hh hle
 unfold miR at *
 have P0 := hide (Blk.new W 23 #[.int .i64 t, .int .i64 c, .int .i64 lo, .int .i64 hi])
 by_cases h0 : c = 0
 · have d0 : (c == 0) = true := by rw [beq_iff_eq]; exact h0
   rw [if_pos h0]
   clear h0
   go_enter Try.func31, Try.ntmps31
   go_wp2_with (go_at_call 33; (with_reducible refine (kv.out _).mono ?_); rintro e w1 ⟨rfl, hE⟩; have E1 := hide hE; have c1 := ((P0.out.ext hE).cell 1).trans rfl; clear hE)
   go_ret2
   exact ⟨none, 0, rfl, OwnC.nil_ _ _, (ext_alloc _ _).trans E1.out⟩
 · have d0 : (c == 0) = false := by rw [beq_eq_false_iff_ne]; exact h0
   rw [if_neg h0]
   clear h0
   go_enter Try.func31, Try.ntmps31
   go_upto_region 5 with (go_at_call 33; (with_reducible refine (kv.out _).mono ?_); rintro e w1 ⟨rfl, hE⟩; have E1 := hide hE; have c1 := ((P0.out.ext hE).cell 1).trans rfl; have c2 := ((P0.out.ext hE).cell 2).trans rfl; have c3 := ((P0.out.ext hE).cell 3).trans rfl; clear hE)
   have O1 := hide (one_co (w := w1) (B := W.heap.size) hc im (Nat.le_trans (ext_alloc _ _).size E1.out.size))
   have e1 := c1
   have e2 := c2
   have e3 := c3
   go_region_law (go_simp; go_at_call 23; (with_reducible refine (KM.out _).mono ?_); rintro e w2 ⟨rfl, rfl⟩)
   all_goals go_wp2_with fail
   all_goals go_ret2
   all_goals exact ⟨_, 1, rfl, O1.out.drew, ((ext_alloc _ _).trans E1.out).trans ((ext_alloc _ _).trans (ext_drew _))⟩
end
section
open Go Go.RowKit Go.Sort
def CoPair (R : Array Value) (l : List (Int × Int)) (W : World) (e : Ending) (w' : World) : Prop := ∃ A k, e = .returned (.tuple #[.agg R, .slice A l.length k]) ∧ OwnC W.heap.size w' (.slice A l.length k) l ∧ Ext W w'
theorem st_all {w : World} {g : Nat} {t ty : TypeId} {X Y : Array Value} {n : Nat} (h : Blk w g t X) (hi : (Try.prog.info? ty).map (·.size) = some n) (hX : X.size = n) (hY : Y.size = n) (hO : Y.all (·.oneCell') = true) : (Instr.storeAt ty (.pointer (some ⟨g, 0, none⟩)) (.agg Y)).run Try.prog w = .ok () (w.setRow g Y) :=
 run_store_part h ty 0 n hi (by omega) Y hY hO Y (by
   have : X.toList.drop (0 + n) = [] := List.drop_eq_nil_of_le (by simp; omega)
   rw [this]; simp)
theorem p_stepY (t c lo hi v : Int) (W : World) (a b : Int) (kx : Hid (∀ w, Calls Try.prog 45 #[.agg (miR t c lo hi), .int .i64 v] w (Ret (.tuple #[.agg (miR t (c + 1) a b), .bool true]) w))) :
   Calls Try.prog 40 #[.agg sgF, .agg (miR t c lo hi), .int .i64 v] W (CoPair (miR t (c + 1) a b) [] W) := by
 have hen : ∀ a w, (callFunc 45 a).run Try.prog w = .ok (.enter 45 a) w := fun a w => by go_simp
 have P4 := Blk.new (W.alloc (.cells sgF 75)) 23 (miR t c lo hi)
 have P3 := (Blk.new W 75 sgF).alloc (.cells (miR t c lo hi) 23)
 have P6 := Blk.new ((W.alloc (.cells sgF 75)).alloc (.cells (miR t c lo hi) 23)) 23 z4m
 replace P4 := P4.alloc (.cells z4m 23)
 replace P3 := P3.alloc (.cells z4m 23)
 have EE := ((ext_alloc W (.cells sgF 75)).trans (ext_alloc _ (.cells (miR t c lo hi) 23))).trans (ext_alloc _ (.cells z4m 23))
 simp only [alloc_size] at P4 P6
 have P3 := hide P3
 have P4 := hide P4
 have P6 := hide P6
 have EE := hide EE
 have oY := hide (miR_one t (c + 1) a b)
 unfold miR sgF z4m at *
 go_enter Try.func40, Try.ntmps40
 go_wp2_with fail
 (with_reducible refine (kx.out _).mono ?_)
 rintro e w1 ⟨rfl, hE⟩
 have E1 := hide (EE.out.trans (hE.trans (ext_alloc w1 (.cells #[.int .i64 t, .int .i64 (c + 1), .int .i64 a, .int .i64 b] 23))))
 have Q6 := hide ((P6.out.ext hE).alloc (.cells #[.int .i64 t, .int .i64 (c + 1), .int .i64 a, .int .i64 b] 23))
 have st := st_all (Y := #[.int .i64 t, .int .i64 (c + 1), .int .i64 a, .int .i64 b]) Q6.out iMid rfl rfl oY.out
 clear hE
 go_wp2_with (refine wl_store (by kernel_rfl) rfl rfl rfl st ?_)
 exact bodyPost_ret (res2 (p := 6) (u := 7) (ty := 23) rfl _ _ _ 23 #[.int .i64 t, .int .i64 (c + 1), .int .i64 a, .int .i64 b] _ rfl (Q6.out.setRow _) uMid rfl iMid) rfl ⟨none, 0, rfl, OwnC.nil_ _ _, ext_row E1.out (by omega) _⟩
set_option maxHeartbeats 3200000 in
set_option maxRecDepth 100000 in
theorem p_stepN (t c lo hi v : Int) (W : World) (l : List (Int × Int)) (kx : Hid (∀ w, Calls Try.prog 45 #[.agg (miR t c lo hi), .int .i64 v] w (Ret (.tuple #[.agg z4m, .bool false]) w))) (kb : Hid (∀ w, Calls Try.prog 46 #[.agg (miR t c lo hi), .int .i64 v] w (Ret (.agg (miR t 1 v v)) w))) (ke : Hid (∀ w, Calls Try.prog 41 #[.agg (miR t c lo hi)] w (CoGet l w))) :
   Calls Try.prog 40 #[.agg sgF, .agg (miR t c lo hi), .int .i64 v] W (CoPair (miR t 1 v v) l W) := by
 have hen : ∀ a w, (callFunc 45 a).run Try.prog w = .ok (.enter 45 a) w := fun a w => by go_simp
 have hen2 : ∀ a w, (callFunc 46 a).run Try.prog w = .ok (.enter 46 a) w := fun a w => by go_simp
 have hen3 : ∀ a w, (callFunc 41 a).run Try.prog w = .ok (.enter 41 a) w := fun a w => by go_simp
 have P4 := Blk.new (W.alloc (.cells sgF 75)) 23 (miR t c lo hi)
 have P3 := (Blk.new W 75 sgF).alloc (.cells (miR t c lo hi) 23)
 have P6 := Blk.new ((W.alloc (.cells sgF 75)).alloc (.cells (miR t c lo hi) 23)) 23 z4m
 replace P4 := P4.alloc (.cells z4m 23)
 replace P3 := P3.alloc (.cells z4m 23)
 have EE := ((ext_alloc W (.cells sgF 75)).trans (ext_alloc _ (.cells (miR t c lo hi) 23))).trans (ext_alloc _ (.cells z4m 23))
 simp only [alloc_size] at P4 P6
 have P3 := hide P3
 have P4 := hide P4
 have P6 := hide P6
 have EE := hide EE
 have oY := hide (miR_one t 1 v v)
 unfold miR sgF z4m at *
 go_enter Try.func40, Try.ntmps40
 go_wp2_with fail
 (with_reducible refine (kx.out _).mono ?_)
 rintro e w1 ⟨rfl, hE⟩
 have E1 := hide (EE.out.trans (hE.trans (ext_alloc w1 (.cells #[.int .i64 0, .int .i64 0, .int .i64 0, .int .i64 0] 23))))
 have Q3 := hide ((P3.out.ext hE).alloc (.cells #[.int .i64 0, .int .i64 0, .int .i64 0, .int .i64 0] 23))
 have Q4 := hide ((P4.out.ext hE).alloc (.cells #[.int .i64 0, .int .i64 0, .int .i64 0, .int .i64 0] 23))
 have Q6 := hide ((P6.out.ext hE).alloc (.cells #[.int .i64 0, .int .i64 0, .int .i64 0, .int .i64 0] 23))
 clear hE P3 P4 P6 EE
 go_upto_region 4 with fail
 obtain ⟨w2, hw2⟩ : ∃ w, w1.alloc (.cells #[.int .i64 0, .int .i64 0, .int .i64 0, .int .i64 0] 23) = w := ⟨_, rfl⟩
 rw [hw2] at E1 Q3 Q4 Q6 ⊢
 clear hw2
 have KE : Hid (∀ w, Upd (W.heap.size + 1 + 1) w2 w → w.cell? ⟨W.heap.size, 1, none⟩ = some (.func (.func 46) #[] #[]) ∧ w.cell? ⟨W.heap.size, 2, none⟩ = some (.func (.func 41) #[] #[]) ∧ w.cell? ⟨W.heap.size + 1, 0, none⟩ = some (.int .i64 t) ∧ w.cell? ⟨W.heap.size + 1, 1, none⟩ = some (.int .i64 c) ∧ w.cell? ⟨W.heap.size + 1, 2, none⟩ = some (.int .i64 lo) ∧ w.cell? ⟨W.heap.size + 1, 3, none⟩ = some (.int .i64 hi)) := hide fun w h => by
   have R3 : Blk w _ _ _ := (h.2.2.2.2 _ Q3.out.lt (by omega)).trans Q3.out
   have R4 : Blk w _ _ _ := (h.2.2.2.2 _ Q4.out.lt (by omega)).trans Q4.out
   exact ⟨(R3.cell 1).trans rfl, (R3.cell 2).trans rfl, (R4.cell 0).trans rfl, (R4.cell 1).trans rfl, (R4.cell 2).trans rfl, (R4.cell 3).trans rfl⟩
 have H2 := KE.out w2 (Upd.refl _ _)
 go_region_held3 (fun w' => w'.cell? ⟨W.heap.size, 1, none⟩ = some (.func (.func 46) #[] #[]) ∧ w'.cell? ⟨W.heap.size, 2, none⟩ = some (.func (.func 41) #[] #[]) ∧ w'.cell? ⟨W.heap.size + 1, 0, none⟩ = some (.int .i64 t) ∧ w'.cell? ⟨W.heap.size + 1, 1, none⟩ = some (.int .i64 c) ∧ w'.cell? ⟨W.heap.size + 1, 2, none⟩ = some (.int .i64 lo) ∧ w'.cell? ⟨W.heap.size + 1, 3, none⟩ = some (.int .i64 hi)) (first | (with_reducible exact H2) | (with_reducible exact H3) | (with_reducible exact H4) | (exact KE.out _ ((((U4.out.set 0 _).set 1 _).set 2 _).set 3 _)) | go_keep) (first
   | ((with_reducible refine (kb.out _).mono ?_); rintro e w3 ⟨rfl, hE3⟩; have E3 := hide ((ext_drew w2).trans hE3); have H3 := KE.out w3 (E3.out.upd _); clear hE3)
   | ((with_reducible refine (ke.out _).mono ?_); rintro e w4 ⟨A4, k4, rfl, hO4, hE4⟩; have E4 := hide (E3.out.trans hE4); have U4 := hide (E4.out.upd (W.heap.size + 1 + 1)); have H4 := KE.out w4 U4.out; have O4 := hide hO4; have hs4 := hE4.size; have Q7 := hide (Q6.out.ext E4.out); have s0 := (Q7.out.cell 0).trans rfl; have f0 := Q7.out.frozen 0; have s1 := (Q7.out.cell 1).trans rfl; have f1 := Q7.out.frozen 1; have s2 := (Q7.out.cell 2).trans rfl; have f2 := Q7.out.frozen 2; have s3 := (Q7.out.cell 3).trans rfl; have f3 := Q7.out.frozen 3; clear hE4 hO4))
 have U9 := ((((Upd.refl (W.heap.size + 1 + 1) w4).set 0 (.int .i64 t)).set 1 (.int .i64 1)).set 2 (.int .i64 v)).set 3 (.int .i64 v)
 have P9 := (((Q7.out.set_ 0 (.int .i64 t)).set_ 1 (.int .i64 1)).set_ 2 (.int .i64 v)).set_ 3 (.int .i64 v)
 have h6 := Q6.out.lt
 have h3 := E3.out.size
 have O9 := (O4.out.upd U9 (by omega)).less (B' := W.heap.size) (by have := E1.out.size; omega)
 have X9 := U9.ext (E1.out.trans E4.out) (by omega)
 obtain ⟨w9, hw9⟩ : ∃ w, ((((w4.setCell ⟨W.heap.size + 1 + 1, 0, none⟩ (.int .i64 t)).setCell ⟨W.heap.size + 1 + 1, 1, none⟩ (.int .i64 1)).setCell ⟨W.heap.size + 1 + 1, 2, none⟩ (.int .i64 v)).setCell ⟨W.heap.size + 1 + 1, 3, none⟩ (.int .i64 v)) = w := ⟨_, rfl⟩
 rw [hw9] at P9 O9 X9 ⊢
 clear hw9
 go_wp2_with fail
 exact bodyPost_ret (res2 (p := 6) (u := 7) (ty := 23) rfl _ _ _ 23 #[.int .i64 t, .int .i64 1, .int .i64 v, .int .i64 v] _ rfl P9 uMid rfl iMid) rfl ⟨A4, k4, rfl, O9, X9⟩
end
section
abbrev Ms := Nat × Int × Int
def stepM (eps : Int) : Option Ms → Int → Option Ms × List Ms
 | none, v => (some (1, v, v), [])
 | some (n, lo, hi), v => if max hi v - min lo v ≤ 2 * eps then (some (n + 1, min lo v, max hi v), []) else (some (1, v, v), [(n, lo, hi)])
def stateM (eps : Int) (s : Option Ms) (l : List Int) : Option Ms := l.foldl (fun s v => (stepM eps s v).1) s
def doneM (eps : Int) : Option Ms → List Int → List Ms
 | _, [] => []
 | s, v :: l => (stepM eps s v).2 ++ doneM eps (stepM eps s v).1 l
def endM : Option Ms → List Ms
 | none => []
 | some s => [s]
def allM (eps : Int) (l : List Int) : List Ms := doneM eps none l ++ endM (stateM eps none l)
theorem stateM_app (eps : Int) (s : Option Ms) (l m : List Int) : stateM eps s (l ++ m) = stateM eps (stateM eps s l) m := by simp [stateM, List.foldl_append]
theorem doneM_app (eps : Int) : ∀ (l m : List Int) (s : Option Ms), doneM eps s (l ++ m) = doneM eps s l ++ doneM eps (stateM eps s l) m
 | [], m, s => by simp [doneM, stateM]
 | v :: l, m, s => by
   simp only [List.cons_append, doneM, doneM_app eps l m, List.append_assoc]
   rfl
theorem stepM_some (eps : Int) (s : Option Ms) (v : Int) : ∃ q, (stepM eps s v).1 = some q := by
 rcases s with _ | ⟨n, lo, hi⟩
 · exact ⟨_, rfl⟩
 · simp only [stepM]; split <;> exact ⟨_, rfl⟩
theorem stateM_cons (eps : Int) (s : Option Ms) (v : Int) (l : List Int) : ∃ q, stateM eps s (v :: l) = some q := by
 induction l generalizing s v with
 | nil => exact stepM_some eps s v
 | cons w l ih => exact ih (stepM eps s v).1 w
theorem fits_done {eps a b : Int} (hab : b - a ≤ 2 * eps) : ∀ (m : List Int) (n : Nat) (lo hi : Int), a ≤ lo → lo ≤ b → a ≤ hi → hi ≤ b → (∀ v ∈ m, a ≤ v ∧ v ≤ b) → doneM eps (some (n, lo, hi)) m = []
 | [], _, _, _, _, _, _, _, _ => rfl
 | v :: m, n, lo, hi, h1, h2, h3, h4, hm => by
   have hv := hm v (by simp)
   have hf : max hi v - min lo v ≤ 2 * eps := by omega
   simp only [doneM, stepM, if_pos hf, List.nil_append]
   exact fits_done hab m (n + 1) (min lo v) (max hi v) (by omega) (by omega) (by omega) (by omega) fun w hw => hm w (by simp [hw])
theorem few_done {eps a b : Int} (hab : b - a ≤ 2 * eps) : ∀ (m : List Int) (s : Option Ms), (∀ v ∈ m, a ≤ v ∧ v ≤ b) → (doneM eps s m).length ≤ 1
 | [], _, _ => by simp [doneM]
 | v :: m, none, hm => by
   have hv := hm v (by simp)
   simp only [doneM, stepM, List.nil_append]
   rw [fits_done hab m 1 v v hv.1 hv.2 hv.1 hv.2 fun w hw => hm w (by simp [hw])]
   simp
 | v :: m, some (n, lo, hi), hm => by
   have hv := hm v (by simp)
   simp only [doneM, stepM]
   split
   · exact few_done hab m _ fun w hw => hm w (by simp [hw])
   · simp only [List.length_append]
     rw [fits_done hab m 1 v v hv.1 hv.2 hv.1 hv.2 fun w hw => hm w (by simp [hw])]
     simp
theorem allM_len (eps : Int) (l : List Int) (hl : l ≠ []) : (allM eps l).length = (doneM eps none l).length + 1 := by
 cases l with
 | nil => exact absurd rfl hl
 | cons v l =>
   obtain ⟨q, hq⟩ := stateM_cons eps none v l
   simp [allM, hq, endM]
theorem allM_run {eps a b : Int} (hab : b - a ≤ 2 * eps) (l m : List Int) (hm : ∀ v ∈ m, a ≤ v ∧ v ≤ b) : (allM eps (l ++ m)).length ≤ (allM eps l).length + 1 := by
 cases m with
 | nil => simp
 | cons v m =>
   rw [allM_len eps (l ++ v :: m) (by simp), doneM_app, List.length_append]
   cases l with
   | nil =>
     have hv := hm v (by simp)
     have : doneM eps (stateM eps none []) (v :: m) = [] := by
       simp only [stateM, List.foldl_nil, doneM, stepM, List.nil_append]
       exact fits_done hab m 1 v v hv.1 hv.2 hv.1 hv.2 fun w hw => hm w (by simp [hw])
     rw [this]
     simp [doneM]
   | cons u l =>
     rw [allM_len eps (u :: l) (by simp)]
     have := few_done hab (v :: m) (stateM eps none (u :: l)) hm
     omega
theorem stateM_last {eps : Int} (he : 0 ≤ eps) : ∀ (k : Nat) (l : List Int), l.length = k → ∀ n lo hi, stateM eps none l = some (n, lo, hi) → 1 ≤ n ∧ n ≤ l.length ∧ hi - lo ≤ 2 * eps ∧ lo ≤ hi ∧ (∀ v ∈ l.drop (l.length - n), lo ≤ v ∧ v ≤ hi) ∧ lo ∈ l.drop (l.length - n) ∧ hi ∈ l.drop (l.length - n) ∧ doneM eps none l = allM eps (l.take (l.length - n))
 | 0, l, h, n, lo, hi, hs => by
   obtain rfl : l = [] := List.length_eq_zero_iff.1 h
   simp [stateM] at hs
 | k + 1, l, h, n, lo, hi, hs => by
   obtain ⟨p, v, rfl⟩ : ∃ p v, l = p ++ [v] := by
     rcases List.eq_nil_or_concat l with rfl | ⟨p, v, rfl⟩
     · simp at h
     · exact ⟨p, v, by simp⟩
   have hp : p.length = k := by simpa using h
   rw [stateM_app] at hs
   rw [doneM_app]
   cases hq : stateM eps none p with
   | none =>
     have hp0 : p = [] := by
       cases p with
       | nil => rfl
       | cons u p =>
         obtain ⟨q, e⟩ := stateM_cons eps none u p
         rw [e] at hq; cases hq
     subst hp0
     rw [hq] at hs
     simp only [stateM, List.foldl_cons, List.foldl_nil, stepM, Option.some.injEq, Prod.mk.injEq] at hs
     obtain ⟨rfl, rfl, rfl⟩ := hs
     simp [doneM, stepM, allM, stateM, endM]
     omega
   | some q =>
     obtain ⟨n', lo', hi'⟩ := q
     obtain ⟨i1, i2, i3, i4, i5, i6, i7, i8⟩ := stateM_last he k p hp n' lo' hi' hq
     rw [hq] at hs
     simp only [stateM, List.foldl_cons, List.foldl_nil, stepM] at hs
     simp only [doneM, stepM, List.append_nil]
     by_cases hf : max hi' v - min lo' v ≤ 2 * eps
     · rw [if_pos hf] at hs ⊢
       simp only [Option.some.injEq, Prod.mk.injEq] at hs
       obtain ⟨rfl, rfl, rfl⟩ := hs
       have e1 : (p ++ [v]).length - (n' + 1) = p.length - n' := by simp
       have e2 : (p ++ [v]).drop (p.length - n') = p.drop (p.length - n') ++ [v] := List.drop_append_of_le_length (by omega)
       have e3 : (p ++ [v]).take (p.length - n') = p.take (p.length - n') := List.take_append_of_le_length (by omega)
       rw [e1, e2, e3]
       refine ⟨by omega, by simp; omega, hf, by omega, fun w hw => ?_, ?_, ?_, by simp [i8]⟩
       · rw [List.mem_append, List.mem_singleton] at hw
         rcases hw with hw | rfl
         · have := i5 w hw; omega
         · omega
       · rw [List.mem_append, List.mem_singleton]
         rcases Int.le_total lo' v with h1 | h1
         · exact Or.inl (by rw [show min lo' v = lo' by omega]; exact i6)
         · exact Or.inr (by omega)
       · rw [List.mem_append, List.mem_singleton]
         rcases Int.le_total hi' v with h1 | h1
         · exact Or.inr (by omega)
         · exact Or.inl (by rw [show max hi' v = hi' by omega]; exact i7)
     · rw [if_neg hf] at hs ⊢
       simp only [Option.some.injEq, Prod.mk.injEq] at hs
       obtain ⟨rfl, rfl, rfl⟩ := hs
       have e1 : (p ++ [v]).length - 1 = p.length := by simp
       rw [e1]
       have e2 : (p ++ [v]).drop p.length = [v] := by simp
       have e3 : (p ++ [v]).take p.length = p := by simp
       rw [e2, e3]
       refine ⟨Nat.le_refl _, by simp, by omega, Int.le_refl _, fun w hw => ?_, by simp, by simp, ?_⟩
       · simp only [List.mem_singleton] at hw; subst hw; omega
       · simp [allM, hq, endM]
theorem allM_last {eps : Int} (he : 0 ≤ eps) (l : List Int) (hl : l ≠ []) : ∃ j lo hi, j < l.length ∧ hi - lo ≤ 2 * eps ∧ (∀ v ∈ l.drop j, lo ≤ v ∧ v ≤ hi) ∧ (allM eps l).length = (allM eps (l.take j)).length + 1 := by
 cases l with
 | nil => exact absurd rfl hl
 | cons u l =>
   obtain ⟨⟨n, lo, hi⟩, hq⟩ := stateM_cons eps none u l
   obtain ⟨h1, h2, h3, _, h5, _, _, h8⟩ := stateM_last he _ _ rfl n lo hi hq
   refine ⟨(u :: l).length - n, lo, hi, by omega, h3, h5, ?_⟩
   rw [allM_len eps (u :: l) (by simp), h8]
def SegsM (eps : Int) : List Int → List Ms → Prop
 | [], [] => True
 | x :: l, (n, lo, hi) :: ls => 1 ≤ n ∧ n ≤ l.length + 1 ∧ hi - lo ≤ 2 * eps ∧ (∀ v ∈ (x :: l).take n, lo ≤ v ∧ v ≤ hi) ∧ lo ∈ (x :: l).take n ∧ hi ∈ (x :: l).take n ∧ (∀ y, (x :: l)[n]? = some y → 2 * eps < max hi y - min lo y) ∧ SegsM eps ((x :: l).drop n) ls
 | _, _ => False
theorem runM_segs {eps : Int} (he : 0 ≤ eps) : ∀ (l p : List Int) (n : Nat) (lo hi : Int), p.length = n → 1 ≤ n → hi - lo ≤ 2 * eps → (∀ v ∈ p, lo ≤ v ∧ v ≤ hi) → lo ∈ p → hi ∈ p → SegsM eps (p ++ l) (doneM eps (some (n, lo, hi)) l ++ endM (stateM eps (some (n, lo, hi)) l))
 | [], p, n, lo, hi, hn, h1, h2, h3, h4, h5 => by
   cases p with
   | nil => simp at hn; omega
   | cons x p =>
     have hn' : p.length + 1 = n := by simpa using hn
     have ht : (x :: p).take n = x :: p := List.take_of_length_le (by simp; omega)
     have hd : (x :: p).drop n = [] := List.drop_of_length_le (by simp; omega)
     simp only [doneM, stateM, List.foldl_nil, endM, List.append_nil, List.nil_append, SegsM, ht, hd]
     exact ⟨h1, by omega, h2, h3, h4, h5, fun y hy => (by rw [List.getElem?_eq_none (by simp; omega)] at hy; cases hy), trivial⟩
 | v :: l, p, n, lo, hi, hn, h1, h2, h3, h4, h5 => by
   by_cases hf : max hi v - min lo v ≤ 2 * eps
   · have e : p ++ v :: l = (p ++ [v]) ++ l := by simp
     simp only [doneM, stateM, List.foldl_cons, stepM, if_pos hf, List.nil_append]
     rw [e]
     refine runM_segs he l (p ++ [v]) (n + 1) (min lo v) (max hi v) (by simp [hn]) (by omega) hf (fun w hw => ?_) ?_ ?_
     · rw [List.mem_append, List.mem_singleton] at hw
       rcases hw with hw | rfl
       · have := h3 w hw; omega
       · omega
     · rw [List.mem_append, List.mem_singleton]
       rcases Int.le_total lo v with h | h
       · exact Or.inl (by rw [show min lo v = lo by omega]; exact h4)
       · exact Or.inr (by omega)
     · rw [List.mem_append, List.mem_singleton]
       rcases Int.le_total hi v with h | h
       · exact Or.inr (by omega)
       · exact Or.inl (by rw [show max hi v = hi by omega]; exact h5)
   · cases p with
     | nil => simp at hn; omega
     | cons x p =>
       have hn' : p.length + 1 = n := by simpa using hn
       have ht : (x :: p ++ v :: l).take n = x :: p := by rw [List.take_append_of_le_length (by simp; omega)]; exact List.take_of_length_le (by simp; omega)
       have hd : (x :: p ++ v :: l).drop n = v :: l := by rw [← hn]; simp
       have hg : (x :: p ++ v :: l)[n]? = some v := by rw [List.getElem?_append_right (by simp; omega)]; simp [hn']
       have ih := runM_segs he l [v] 1 v v rfl (Nat.le_refl _) (by omega) (fun w hw => by simp only [List.mem_singleton] at hw; subst hw; omega) (by simp) (by simp)
       simp only [doneM, stateM, List.foldl_cons, stepM, if_neg hf]
       rw [List.cons_append] at ht hd hg ⊢
       simp only [List.singleton_append, List.cons_append, List.nil_append, SegsM, ht, hd]
       exact ⟨h1, by simp; omega, h2, h3, h4, h5, fun y hy => by rw [hg] at hy; cases hy; omega, ih⟩
theorem allM_segs {eps : Int} (he : 0 ≤ eps) (l : List Int) : SegsM eps l (allM eps l) := by
 cases l with
 | nil => simp [allM, doneM, stateM, endM, SegsM]
 | cons v l =>
   have := runM_segs he l [v] 1 v v rfl (Nat.le_refl _) (by omega) (fun w hw => by simp only [List.mem_singleton] at hw; subst hw; omega) (by simp) (by simp)
   simpa [allM, doneM, stateM, stepM] using this
end
section
theorem doneM_le (eps : Int) : ∀ (l : List Int) (s : Option Ms), (doneM eps s l).length ≤ l.length
 | [], _ => by simp [doneM]
 | v :: l, s => by
   have h1 := doneM_le eps l (stepM eps s v).1
   have h2 : (stepM eps s v).2.length ≤ 1 := by
     rcases s with _ | ⟨n, lo, hi⟩
     · simp [stepM]
     · simp only [stepM]; split <;> simp
   simp only [doneM, List.length_append, List.length_cons]
   omega
theorem allM_le (eps : Int) (l : List Int) : (allM eps l).length ≤ l.length := by
 cases l with
 | nil => simp [allM, doneM, stateM, endM]
 | cons v l =>
   rw [allM_len eps (v :: l) (by simp)]
   simp only [doneM, stepM, List.nil_append, List.length_cons]
   have := doneM_le eps l (some (1, v, v))
   omega
def cntM (eps : Int) (l : List Int) (i : Nat) : Nat := (allM eps (l.take i)).length
def RunM (l : List Int) (j i : Nat) (lo hi : Int) : Prop := (∀ v ∈ (l.take i).drop j, lo ≤ v ∧ v ≤ hi) ∧ lo ∈ (l.take i).drop j ∧ hi ∈ (l.take i).drop j
theorem run_drop {l : List Int} {i j : Nat} {v : Int} (hv : l[j]? = some v) (hj : j < i) : (l.take i).drop j = v :: (l.take i).drop (j + 1) := by
 have h : (l.take i)[j]? = some v := by rw [List.getElem?_take_of_lt hj]; exact hv
 have hl : j < (l.take i).length := (List.getElem?_eq_some_iff.1 h).1
 rw [List.drop_eq_getElem_cons hl]
 rw [List.getElem?_eq_getElem hl] at h
 rw [Option.some.inj h]
theorem run_start {l : List Int} {i : Nat} {v : Int} (hv : l[i]? = some v) : RunM l i (i + 1) v v := by
 have e : (l.take (i + 1)).drop i = [v] := by
   rw [run_drop hv (by omega), List.drop_of_length_le (by rw [List.length_take]; omega)]
 unfold RunM
 rw [e]
 exact ⟨fun w hw => by simp only [List.mem_singleton] at hw; subst hw; omega, by simp, by simp⟩
theorem run_more {l : List Int} {i j : Nat} {lo hi v : Int} (h : RunM l (j + 1) i lo hi) (hv : l[j]? = some v) (hj : j < i) : RunM l j i (min lo v) (max hi v) := by
 obtain ⟨h1, h2, h3⟩ := h
 unfold RunM
 rw [run_drop hv hj]
 refine ⟨fun w hw => ?_, ?_, ?_⟩
 · rw [List.mem_cons] at hw
   rcases hw with rfl | hw
   · omega
   · have := h1 w hw; omega
 · rw [List.mem_cons]
   rcases Int.le_total lo v with h | h
   · exact Or.inr (by rw [show min lo v = lo by omega]; exact h2)
   · exact Or.inl (by omega)
 · rw [List.mem_cons]
   rcases Int.le_total hi v with h | h
   · exact Or.inl (by omega)
   · exact Or.inr (by rw [show max hi v = hi by omega]; exact h3)
theorem run_cnt {eps : Int} {l : List Int} {i j : Nat} {lo hi : Int} (h : RunM l j i lo hi) (hj : j ≤ i) (hf : hi - lo ≤ 2 * eps) : cntM eps l i ≤ cntM eps l j + 1 := by
 have e : l.take i = l.take j ++ (l.take i).drop j := by
   have := List.take_append_drop j (l.take i)
   rw [List.take_take, Nat.min_eq_left hj] at this
   exact this.symm
 unfold cntM
 rw [e]
 exact allM_run hf _ _ h.1
theorem best_end {eps : Int} (he : 0 ≤ eps) {l : List Int} {i cur : Nat} (h1 : 1 ≤ i) (h2 : i ≤ l.length) (hc : cntM eps l i ≤ cur) (hb : ∀ j lo hi, j < i → RunM l j i lo hi → hi - lo ≤ 2 * eps → cur ≤ cntM eps l j + 1) : cur = cntM eps l i := by
 have hl : (l.take i).length = i := by rw [List.length_take]; omega
 obtain ⟨j, lo, hi, hj, hf, hr, he2⟩ := allM_last he (l.take i) (fun e => by rw [e] at hl; simp at hl; omega)
 rw [hl] at hj
 -- the least and the greatest of the last run
 have key : ∀ k, j + k < i → ∃ lo' hi', RunM l (i - 1 - k) i lo' hi' := by
   intro k
   induction k with
   | zero =>
     intro hk
     have hv : l[i - 1]? = some (l[i - 1]'(by omega)) := List.getElem?_eq_getElem _
     have := run_start hv
     rw [show i - 1 + 1 = i by omega] at this
     exact ⟨_, _, by simpa using this⟩
   | succ k ih =>
     intro hk
     obtain ⟨lo', hi', hr'⟩ := ih (by omega)
     have hv : l[i - 1 - (k + 1)]? = some (l[i - 1 - (k + 1)]'(by omega)) := List.getElem?_eq_getElem _
     exact ⟨_, _, run_more (by rw [show i - 1 - (k + 1) + 1 = i - 1 - k by omega]; exact hr') hv (by omega)⟩
 obtain ⟨lo', hi', hr'⟩ := key (i - 1 - j) (by omega)
 rw [show i - 1 - (i - 1 - j) = j by omega] at hr'
 have a := hr lo' hr'.2.1
 have b := hr hi' hr'.2.2
 have := hb j lo' hi' hj hr' (by omega)
 have e3 : cntM eps l j = (allM eps ((l.take i).take j)).length := by
   unfold cntM
   rw [List.take_take, Nat.min_eq_left (by omega)]
 have e4 : cntM eps l i = (allM eps ((l.take i).take j)).length + 1 := he2
 omega
theorem cnt_le (eps : Int) (l : List Int) (i : Nat) : cntM eps l i ≤ i := by
 have := allM_le eps (l.take i)
 rw [List.length_take] at this
 unfold cntM
 omega
def SegB (eps : Int) (l : List Int) (ls : List Ms) (k a : Nat) : Prop := a ≤ l.length ∧ k ≤ ls.length ∧ SegsM eps (l.drop a) (ls.drop k)
theorem segB0 {eps : Int} (he : 0 ≤ eps) (l : List Int) : SegB eps l (allM eps l) 0 0 := ⟨Nat.zero_le _, Nat.zero_le _, allM_segs he l⟩
theorem SegB.next {eps : Int} {l : List Int} {ls : List Ms} {k a : Nat} (h : SegB eps l ls k a) (hk : k < ls.length) :
   ∃ (n : Nat) (lo hi : Int), ls[k]? = some (n, lo, hi) ∧ 1 ≤ n ∧ a + n ≤ l.length ∧ hi - lo ≤ 2 * eps ∧ RunM l a (a + n) lo hi ∧ (∀ y, l[a + n]? = some y → 2 * eps < max hi y - min lo y) ∧ SegB eps l ls (k + 1) (a + n) := by
 obtain ⟨h1, h2, h3⟩ := h
 obtain ⟨q, hq⟩ : ∃ q, ls[k]? = some q := ⟨ls[k], by simp [hk]⟩
 obtain ⟨n, lo, hi⟩ := q
 have e1 : ls.drop k = (n, lo, hi) :: ls.drop (k + 1) := by
   rw [List.drop_eq_getElem_cons hk]
   rw [List.getElem?_eq_getElem hk] at hq
   rw [Option.some.inj hq]
 rw [e1] at h3
 cases hd : l.drop a with
 | nil => rw [hd] at h3; exact absurd h3 (by simp [SegsM])
 | cons x r =>
   rw [hd] at h3
   have hl : r.length + 1 = l.length - a := by have := congrArg List.length hd; rw [List.length_drop] at this; simp only [List.length_cons] at this; omega
   simp only [SegsM] at h3
   obtain ⟨g1, g2, g3, g4, g5, g6, g7, g8⟩ := h3
   rw [← hd] at g4 g5 g6 g7 g8
   have et : (l.drop a).take n = (l.take (a + n)).drop a := by rw [List.take_drop, Nat.add_comm]
   rw [et] at g4 g5 g6
   refine ⟨n, lo, hi, hq, g1, by omega, g3, ⟨g4, g5, g6⟩, fun y hy => g7 y (by rw [List.getElem?_drop]; exact hy), by omega, by omega, ?_⟩
   rw [List.drop_drop] at g8
   exact g8
theorem SegB.end_ {eps : Int} {l : List Int} {ls : List Ms} {k a : Nat} (h : SegB eps l ls k a) (hk : k = ls.length) : a = l.length := by
 obtain ⟨h1, h2, h3⟩ := h
 rw [hk, List.drop_length] at h3
 cases hd : l.drop a with
 | nil => have := List.drop_eq_nil_iff.1 hd; omega
 | cons x r => rw [hd] at h3; exact absurd h3 (by simp [SegsM])
end
section
def OkM (eps : Int) : Option Ms → Prop
 | none => True
 | some (n, lo, hi) => 1 ≤ n ∧ n ≤ 1073741824 ∧ I64 lo ∧ I64 hi ∧ lo ≤ hi ∧ hi - lo ≤ 2 * eps ∧ (n = 1 → lo = hi)
def cntS : Option Ms → Nat
 | none => 0
 | some s => s.1
theorem step_okM {eps : Int} (he : Tol eps) {s : Option Ms} {v : Int} (h : OkM eps s) (hv : I64 v) (hc : cntS s < 1073741824) : OkM eps (stepM eps s v).1 ∧ cntS (stepM eps s v).1 ≤ cntS s + 1 := by
 have h0 := he.1
 rcases s with _ | ⟨n, lo, hi⟩
 · exact ⟨⟨Nat.le_refl _, by omega, hv, hv, Int.le_refl _, by omega, fun _ => rfl⟩, Nat.le_refl _⟩
 · obtain ⟨h1, h2, ⟨h3, h3'⟩, ⟨h4, h4'⟩, h5, h6, h7⟩ := h
   obtain ⟨v1, v2⟩ := hv
   simp only [cntS] at hc
   simp only [stepM]
   split
   · exact ⟨⟨by omega, by omega, ⟨by omega, by omega⟩, ⟨by omega, by omega⟩, by omega, by omega, fun e => by omega⟩, Nat.le_refl _⟩
   · exact ⟨⟨Nat.le_refl _, by omega, ⟨v1, v2⟩, ⟨v1, v2⟩, Int.le_refl _, by omega, fun _ => rfl⟩, by simp [cntS]⟩
theorem take_snoc {α : Type} {l : List α} {j : Nat} {v : α} (hv : l[j]? = some v) : l.take (j + 1) = l.take j ++ [v] := by rw [List.take_add_one, hv]; rfl
theorem state_atM {eps : Int} (he : Tol eps) {l : List Int} (ho : ∀ v ∈ l, I64 v) (hn : l.length ≤ 1073741824) : ∀ j, j ≤ l.length → OkM eps (stateM eps none (l.take j)) ∧ cntS (stateM eps none (l.take j)) ≤ j
 | 0, _ => ⟨trivial, Nat.le_refl _⟩
 | j + 1, hj => by
   obtain ⟨h1, h2⟩ := state_atM he ho hn j (by omega)
   have hv : l[j]? = some (l[j]'(by omega)) := List.getElem?_eq_getElem _
   rw [take_snoc hv, stateM_app]
   have := step_okM he h1 (ho _ (List.mem_of_getElem? hv)) (by omega)
   exact ⟨this.1, Nat.le_trans this.2 (by omega)⟩
theorem done_snocM (eps : Int) {l : List Int} {j : Nat} {v : Int} (hv : l[j]? = some v) : doneM eps none (l.take (j + 1)) = doneM eps none (l.take j) ++ (stepM eps (stateM eps none (l.take j)) v).2 ∧ stateM eps none (l.take (j + 1)) = (stepM eps (stateM eps none (l.take j)) v).1 := by
 rw [take_snoc hv, doneM_app, stateM_app]
 exact ⟨by simp [doneM], rfl⟩
end
section
open Go Go.RowKit Go.Sort
def stR (eps : Int) : Option Ms → Array Value
 | none => miR eps 0 0 0
 | some (n, lo, hi) => miR eps n lo hi
def coM (s : Ms) : Int × Int := ((s.1 : Int), (s.2.1 + s.2.2) / 2)
theorem stR_size (eps : Int) (s : Option Ms) : (stR eps s).size = 4 := by rcases s with _ | ⟨n, lo, hi⟩ <;> rfl
theorem ok_v {eps : Int} (he : Tol eps) {n : Nat} {lo hi : Int} (h : OkM eps (some (n, lo, hi))) : okB eps n lo hi = true := by
 obtain ⟨h1, h2, h3, h4, h5, h6, h7⟩ := h
 exact okB_iff.2 ⟨he, Or.inr ⟨by omega, by omega, h5, h6, fun e => h7 (by omega)⟩⟩
theorem ok_v0 {eps : Int} (he : Tol eps) : okB eps 0 0 0 = true := okB_iff.2 ⟨he, Or.inl ⟨rfl, rfl, rfl⟩⟩
theorem tol64 {eps : Int} (he : Tol eps) : I64 eps := ⟨by have := he.1; omega, by have := he.2; omega⟩
theorem r_validS (eps : Int) (s : Option Ms) (he : Tol eps) (hs : OkM eps s) (W : World) : Calls Try.prog 33 #[.agg (stR eps s)] W (Ret (.bool true) W) := by
 rcases s with _ | ⟨n, lo, hi⟩
 · exact r_valid eps 0 0 0 W (tol64 he) ⟨by omega, by omega⟩ ⟨by omega, by omega⟩ true (ok_v0 he)
 · exact r_valid eps n lo hi W (tol64 he) hs.2.2.1 hs.2.2.2.1 true (ok_v he hs)
theorem fit_eq {lo hi v eps : Int} (h : lo ≤ hi) : fitB (min lo v) (max hi v) eps = decide (max hi v - min lo v ≤ 2 * eps) := by
 unfold fitB
 have : (((min lo v - max hi v).natAbs : Nat) : Int) = max hi v - min lo v := by omega
 rw [this]
theorem end_eq (s : Option Ms) (eps : Int) (hs : OkM eps s) : (endM s).map coM = match s with | none => [] | some (n, lo, hi) => endL n lo hi := by
 rcases s with _ | ⟨n, lo, hi⟩
 · rfl
 · have : ¬ ((n : Int) = 0) := by have := hs.1; omega
   simp only [endM, List.map_cons, List.map_nil, endL, if_neg this, coM]
set_option maxHeartbeats 1600000 in
theorem p_stepS (eps : Int) (s : Option Ms) (v : Int) (he : Tol eps) (hs : OkM eps s) (hc : cntS s < 1073741824) (hv : I64 v) (W : World) :
   Calls Try.prog 40 #[.agg sgF, .agg (stR eps s), .int .i64 v] W (CoPair (stR eps (stepM eps s v).1) ((stepM eps s v).2.map coM) W) := by
 rcases s with _ | ⟨n, lo, hi⟩
 · exact p_stepN eps 0 0 0 v W [] (hide fun w => p_ext0 eps 0 0 0 v w rfl) (hide fun w => p_begin _ _ _ _ _ w) (hide fun w => by
     have := p_endM eps 0 0 0 w ⟨by omega, by omega⟩ ⟨by omega, by omega⟩ ⟨by omega, by omega⟩
     rwa [show endL 0 0 0 = [] from rfl] at this)
 · obtain ⟨h1, h2, h3, h4, h5, h6, h7⟩ := hs
   simp only [cntS] at hc
   have d0 : ((n : Int) == 0) = false := by rw [beq_eq_false_iff_ne]; omega
   have im : I64 (min lo v) := by unfold I64 at *; omega
   have ix : I64 (max hi v) := by unfold I64 at *; omega
   have hf := fit_eq (v := v) (eps := eps) h5
   by_cases hq : max hi v - min lo v ≤ 2 * eps
   · rw [decide_eq_true hq] at hf
     simp only [stepM, if_pos hq]
     exact p_stepY eps n lo hi v W (min lo v) (max hi v) (hide fun w => p_extY eps n lo hi v w d0 (by rw [IntKind.wrap_i64]; omega) (hide fun w => p_has _ _ _ w im ix he true hf))
   · rw [decide_eq_false hq] at hf
     simp only [stepM, if_neg hq]
     have hE : endL (n : Int) lo hi = [coM (n, lo, hi)] := by unfold endL coM; rw [if_neg (by omega)]
     exact p_stepN eps n lo hi v W _ (hide fun w => p_extN eps n lo hi v w d0 (hide fun w => p_has _ _ _ w im ix he false hf)) (hide fun w => p_begin _ _ _ _ _ w) (hide fun w => by
       have := p_endM eps n lo hi w h3 h4 ⟨by omega, by omega⟩
       rwa [hE] at this)
theorem p_endS (eps : Int) (s : Option Ms) (hs : OkM eps s) (W : World) : Calls Try.prog 41 #[.agg (stR eps s)] W (CoGet ((endM s).map coM) W) := by
 rw [end_eq s eps hs]
 rcases s with _ | ⟨n, lo, hi⟩
 · exact p_endM eps 0 0 0 W ⟨by omega, by omega⟩ ⟨by omega, by omega⟩ ⟨by omega, by omega⟩
 · exact p_endM eps n lo hi W hs.2.2.1 hs.2.2.2.1 (by have := hs.2.1; exact ⟨by omega, by omega⟩)
theorem r_finS (eps : Int) (s : Option Ms) (he : Tol eps) (hs : OkM eps s) (W : World) : Calls Try.prog 31 #[.agg (stR eps s)] W (CoFin ((endM s).map coM) 0 W) := by
 have kv := hide fun w => r_validS eps s he hs w
 rw [end_eq s eps hs]
 rcases s with _ | ⟨n, lo, hi⟩
 · exact r_finY eps 0 0 0 W ⟨by omega, by omega⟩ ⟨by omega, by omega⟩ ⟨by omega, by omega⟩ (by omega) kv
 · exact r_finY eps n lo hi W hs.2.2.1 hs.2.2.2.1 (by have := hs.2.1; exact ⟨by omega, by omega⟩) hs.2.2.2.2.1 kv
def CoTrip (R : Array Value) (l : List (Int × Int)) (er : Nat) (W : World) (e : Ending) (w' : World) : Prop := ∃ A k, e = .returned (.tuple #[.agg R, .slice A l.length k, .int .i64 (er : Int)]) ∧ OwnC W.heap.size w' (.slice A l.length k) l ∧ Ext W w'
theorem trip_nil {R : Array Value} {er : Nat} {W w' : World} {e : Ending} (h : Ret (.tuple #[.agg R, .slice none 0 0, .int .i64 (er : Int)]) W e w') : CoTrip R [] er W e w' := ⟨none, 0, h.1, OwnC.nil_ _ _, h.2⟩
def stepF (eps : Int) (s : Option Ms) (v : Int) : Array Value × List (Int × Int) × Nat := if cntS s = 1073741824 then (z4m, [], 3) else (stR eps (stepM eps s v).1, (stepM eps s v).2.map coM, 0)
set_option maxHeartbeats 1600000 in
theorem r_stepF (eps : Int) (s : Option Ms) (v : Int) (he : Tol eps) (hs : OkM eps s) (hv : I64 v) (W : World) : Calls Try.prog 25 #[.agg (stR eps s), .int .i64 v] W (CoTrip (stepF eps s v).1 (stepF eps s v).2.1 (stepF eps s v).2.2 W) := by
 have kv := hide fun w => r_validS eps s he hs w
 have kn := hide fun w => r_finS eps s he hs w
 unfold stepF
 rcases s with _ | ⟨n, lo, hi⟩
 · exact r_step0 eps 0 0 0 v W kv (by decide) (by decide) (by decide) [] kn
 · obtain ⟨h1, h2, h3, h4, h5, h6, h7⟩ := hs
   by_cases hc : n = 1073741824
   · rw [if_pos (show cntS (some (n, lo, hi)) = 1073741824 from hc)]
     exact (r_stepL eps n lo hi v W kv (by rw [beq_iff_eq]; omega)).mono fun _ _ h => trip_nil h
   · rw [if_neg (show ¬ cntS (some (n, lo, hi)) = 1073741824 from hc)]
     have d1 : ((n : Int) == 1073741824) = false := by rw [beq_eq_false_iff_ne]; omega
     have d2 : decide (0 < (n : Int)) = true := decide_eq_true (by omega)
     have wr : IntKind.i64.wrap ((n : Int) + 1) = (n : Int) + 1 := by rw [IntKind.wrap_i64]; omega
     have im : I64 (min lo v) := by unfold I64 at *; omega
     have ix : I64 (max hi v) := by unfold I64 at *; omega
     have hf := fit_eq (v := v) (eps := eps) h5
     by_cases hq : max hi v - min lo v ≤ 2 * eps
     · rw [decide_eq_true hq] at hf
       simp only [stepM, if_pos hq]
       exact (r_stepY eps n lo hi v W kv d1 wr d2 (hide fun w => r_fits _ _ _ _ w im ix he true hf)).mono fun _ _ h => trip_nil h
     · rw [decide_eq_false hq] at hf
       simp only [stepM, if_neg hq]
       exact r_stepN eps n lo hi v W kv d1 wr d2 (hide fun w => r_fits _ _ _ _ w im ix he false hf) [coM (n, lo, hi)] kn
end
section
open Go Go.RowKit Go.Sort
attribute [local go_sem] qUpon eUpon putE slE
theorem OwnC.updT {B b : Nat} {w w' : World} {v : Value} {l : List (Int × Int)} {cs : Array Value} {T : TypeId} (h : OwnC B w v l) (u : Upd b w w') (hb : Blk w b T cs) (hT : T ≠ 46) : OwnC B w' v l := by
 obtain ⟨⟨h1, h2⟩, h3⟩ := h
 refine ⟨⟨h1, ?_⟩, h3⟩
 rcases h2 with h2 | ⟨g, cap, cur, hv, hg, hh, r⟩
 · exact Or.inl h2
 · refine Or.inr ⟨g, cap, cur, hv, hg, ?_, r⟩
   rw [u.2.2.2.2 g (Array.getElem?_eq_some_iff.1 hh).1 (fun e => by subst e; unfold Blk at hb; rw [hb] at hh; injection hh with hh; injection hh with _ hh _; exact hT hh)]
   exact hh
end
section
open Go Go.RowKit Go.Sort
def allF (eps : Int) (l : List Int) : List (Int × Int) × Nat := if tolB eps = true then (if 1073741824 < l.length then ([], 3) else ((allM eps l).map coM, 0)) else ([], 9)
theorem row_of (eps : Int) (s : Option Ms) : ∃ c lo hi : Int, stR eps s = miR eps c lo hi := by
 rcases s with _ | ⟨n, lo, hi⟩
 · exact ⟨0, 0, 0, rfl⟩
 · exact ⟨n, lo, hi, rfl⟩
theorem r_allT (A : Option Addr) (n c : Nat) (eps : Int) (W : World) (ht : tolB eps = false) : Calls Try.prog 18 #[.slice A n c, .int .i64 eps] W (CoFin [] 9 W) := by
 have KS := hide fun w => r_startM_no eps w (hide fun w => r_tolI eps w false ht)
 unfold z4m at *
 clear ht
 go_enter Try.func18, Try.ntmps18
 go_wp2_with (go_at_call 11; (with_reducible refine (KS.out _).mono ?_); rintro e w1 ⟨rfl, hE⟩; have E1 := hide hE; clear hE)
 go_ret2
 exact ⟨none, 0, rfl, OwnC.nil_ _ _, E1.out.trans (ext_alloc _ _)⟩
theorem r_allL (A : Option Addr) (n c : Nat) (eps : Int) (W : World) (ht : tolB eps = true) (hn : 1073741824 < n) : Calls Try.prog 18 #[.slice A n c, .int .i64 eps] W (CoFin [] 3 W) := by
 have KS := hide fun w => r_startM eps w (hide fun w => r_tolI eps w true ht)
 have d0 : decide ((1073741824 : Int) < (n : Int)) = true := decide_eq_true (by omega)
 unfold miR at *
 clear ht hn
 go_enter Try.func18, Try.ntmps18
 go_wp2_with (go_at_call 11; (with_reducible refine (KS.out _).mono ?_); rintro e w1 ⟨rfl, hE⟩; have E1 := hide hE; clear hE)
 go_ret2
 exact ⟨none, 0, rfl, OwnC.nil_ _ _, E1.out.trans (ext_alloc _ _)⟩
set_option maxHeartbeats 3200000 in
set_option maxRecDepth 100000 in
theorem r_allG (A : Option Addr) (n c : Nat) (l : List Int) (eps : Int) (W : World) (he : Tol eps) (hl : TimesAt W A l) (hn : l.length = n) (hn2 : n ≤ 1073741824) : Calls Try.prog 18 #[.slice A n c, .int .i64 eps] W (CoFin ((allM eps l).map coM) 0 W) := by
 have KS := hide fun w => r_startM eps w (hide fun w => r_tolI eps w true (tolB_iff.2 he))
 have d0 : decide ((1073741824 : Int) < (n : Int)) = false := decide_eq_false (by omega)
 have Hl := hide hl
 have Hn := hide hn
 have He := hide he
 have HI := hide hl.1
 clear hl hn he
 unfold miR at KS
 go_enter Try.func18, Try.ntmps18
 go_upto_region 8 with (go_at_call 11; (with_reducible refine (KS.out _).mono ?_); rintro e w1 ⟨rfl, hE⟩; have E1 := hide (hE.trans (ext_alloc w1 (.cells #[.int .i64 eps, .int .i64 0, .int .i64 0, .int .i64 0] 23))); have P6 := hide (Blk.new w1 23 (stR eps none)); have L6 := hide hE.size; clear hE)
 obtain ⟨g, hg⟩ : ∃ g, w1.heap.size = g := ⟨_, rfl⟩
 obtain ⟨w2, hw2⟩ : ∃ w, w1.alloc (.cells #[.int .i64 eps, .int .i64 0, .int .i64 0, .int .i64 0] 23) = w := ⟨_, rfl⟩
 have P6 : Hid (Blk w2 g 23 (stR eps (stateM eps none (l.take 0)))) := by rw [← hw2, ← hg]; exact P6
 rw [hw2] at E1
 rw [hg] at L6
 rw [hw2, hg]
 clear hw2 hg KS
 go_loopw [8, 9, 10] (fun ov iv _ wr => ∃ i : Nat, i ≤ n ∧ iv = .int .i64 (i : Int) ∧ Hid (OwnC (g + 1) wr ov ((doneM eps none (l.take i)).map coM)) ∧ Hid (Blk wr g 23 (stR eps (stateM eps none (l.take i)))) ∧ Hid (Ext W wr)) (fun _ iv _ _ => n - (intOf iv).toNat)
 case atStart => exact ⟨0, by omega, rfl, hide (OwnC.nil_ _ _), P6, E1⟩
 case round =>
   clear P6 E1
   obtain ⟨i, hi, rfl, HO, HP, HE⟩ := hrel
   by_cases hlt : i < n
   · have d1 : decide ((i : Int) < (n : Int)) = true := decide_eq_true (by omega)
     have him : i < l.length := by rw [Hn.out]; exact hlt
     obtain ⟨bm, om, rfl, _, hc⟩ := (Hl.out.ext HE.out).2.2 (by omega)
     have ct := hc i him
     have ix := fun w => idxT bm om n c i hlt w
     have hv : l[i]? = some (l.getD i 0) := by rw [List.getElem?_eq_getElem him]; simp [List.getD_eq_getElem?_getD, him]
     have iv := HI.out.get i
     obtain ⟨hdone, hst⟩ := done_snocM eps hv
     obtain ⟨hok, hcnt⟩ := state_atM He.out HI.out (by rw [Hn.out]; exact hn2) i (by omega)
     have hlen := doneM_le eps (l.take i) none
     rw [List.length_take] at hlen
     obtain ⟨v, hvv⟩ : ∃ v, l.getD i 0 = v := ⟨_, rfl⟩
     rw [hvv] at ct hv iv hdone hst
     have hne : ¬ cntS (stateM eps none (l.take i)) = 1073741824 := by omega
     have KS := fun w => r_stepF eps (stateM eps none (l.take i)) v He.out hok iv w
     have ll : (stepM eps (stateM eps none (l.take i)) v).2.length ≤ 1 := by
       rcases stateM eps none (l.take i) with _ | ⟨a1, a2, a3⟩
       · simp [stepM]
       · simp only [stepM]; split <;> simp
     unfold stepF at KS
     rw [if_neg hne] at KS
     obtain ⟨s, hs⟩ : ∃ s, stateM eps none (l.take i) = s := ⟨_, rfl⟩
     rw [hs] at KS hst HP ll hdone
     rw [← hst] at KS
     obtain ⟨T, hT⟩ : ∃ T, (doneM eps none (l.take i)).map coM = T := ⟨_, rfl⟩
     obtain ⟨q, hq⟩ : ∃ q, (stepM eps s v).2.map coM = q := ⟨_, rfl⟩
     have hdm : (doneM eps none (l.take (i + 1))).map coM = T ++ q := by rw [hdone, List.map_append, hT, hq]
     have hTl : T.length ≤ i := by rw [← hT, List.length_map]; omega
     have hql : q.length ≤ 1 := by rw [← hq, List.length_map]; exact ll
     rw [hT] at HO
     rw [hq] at KS
     obtain ⟨c0, lo0, hi0, hr0⟩ := row_of eps s
     obtain ⟨c1, lo1, hi1, hr1⟩ := row_of eps (stateM eps none (l.take (i + 1)))
     rw [hr0] at KS HP
     rw [hr1] at KS
     have KS := hide KS
     have Hr1 := hide hr1
     have Hdm := hide hdm
     have e0 : wr.cell? ⟨g, 0, none⟩ = some (.int .i64 eps) := HP.out.cell 0
     have e1 : wr.cell? ⟨g, 1, none⟩ = some (.int .i64 c0) := HP.out.cell 1
     have e2 : wr.cell? ⟨g, 2, none⟩ = some (.int .i64 lo0) := HP.out.cell 2
     have e3 : wr.cell? ⟨g, 3, none⟩ = some (.int .i64 hi0) := HP.out.cell 3
     have hgW := HP.out.lt
     unfold miR at KS HP
     clear hc hvv hv hdone hst hok hcnt hlen hne ll hs hT hq hr0 hr1 hdm
     go_upto_region 11 with fail
     go_region_law (first
       | (go_simp; go_at_call 25; (with_reducible refine (KS.out _).mono ?_); rintro e w6 ⟨A6, k6, rfl, hO6, hE6⟩; have O6 := hide ((HO.out.ext (ext_drew wr)).ext hE6); have Q6 := hide hO6; have E6 := hide ((HE.out.trans (ext_drew wr)).trans hE6); have P7 := hide ((HP.out.ext (ext_drew wr)).ext hE6); have z6 := hE6.size; have s0 : w6.cell? ⟨g, 0, none⟩ = some (.int .i64 eps) := P7.out.cell 0; have f0 := P7.out.frozen 0; have s1 : w6.cell? ⟨g, 1, none⟩ = some (.int .i64 c0) := P7.out.cell 1; have f1 := P7.out.frozen 1; have s2 : w6.cell? ⟨g, 2, none⟩ = some (.int .i64 lo0) := P7.out.cell 2; have f2 := P7.out.frozen 2; have s3 : w6.cell? ⟨g, 3, none⟩ = some (.int .i64 hi0) := P7.out.cell 3; have f3 := P7.out.frozen 3; clear hO6 hE6))
     all_goals
       have U9 := ((((Upd.refl g w6).set 0 (.int .i64 eps)).set 1 (.int .i64 c1)).set 2 (.int .i64 lo1)).set 3 (.int .i64 hi1)
       have P9 := (((P7.out.set_ 0 (.int .i64 eps)).set_ 1 (.int .i64 c1)).set_ 2 (.int .i64 lo1)).set_ 3 (.int .i64 hi1)
       have O9 := O6.out.upd U9 (Nat.lt_succ_self g)
       have Q9 := own_co (Q6.out.upd U9 (show g < wr.drew.heap.size from hgW))
       have E9 := U9.ext E6.out L6.out
       have hz9 : g + 1 ≤ w6.heap.size := Nat.le_trans hgW z6
       have hz9 := Nat.le_trans hz9 U9.2.2.2.1
       obtain ⟨w9, hw9⟩ : ∃ w, ((((w6.setCell ⟨g, 0, none⟩ (.int .i64 eps)).setCell ⟨g, 1, none⟩ (.int .i64 c1)).setCell ⟨g, 2, none⟩ (.int .i64 lo1)).setCell ⟨g, 3, none⟩ (.int .i64 hi1)) = w := ⟨_, rfl⟩
       rw [hw9] at P9 O9 Q9 E9 hz9 ⊢
       have P9 : Blk w9 g 23 (stR eps (stateM eps none (l.take (i + 1)))) := by rw [Hr1.out]; exact P9
       have P9 := hide P9
       have O9 := hide O9
       have Q9 := hide Q9
       have E9 := hide E9
       have hle : T.length + q.length ≤ 8796093022208 := by omega
       clear hw9 U9 O6 Q6 E6 P7 s0 s1 s2 s3 f0 f1 f2 f3 e0 e1 e2 e3 HO HP HE KS ct Hr1
       go_wp2_with (at_builtin; refine wl_appendC rfl (.tmp 40) (.tmp 41) rfl (g + 1) _ T q rfl O9.out A6 _ k6 rfl Q9.out rfl hle hz9 ?_; intro v10 w10 hO10 hG10 hA10)
       have B10 : Below (g + 1) w9 w10 := (Below.refl (g + 1) w9).grown hG10 hz9 (fun k hk => (O9.out.1.lt k hk).1)
       have P10 := hide (show Blk w10 g _ _ from (B10.block g (Nat.lt_succ_self g)).trans P9.out)
       have O10 : Hid (OwnC (g + 1) w10 v10 ((doneM eps none (l.take (i + 1))).map coM)) := by show OwnC _ _ _ _; rw [Hdm.out]; exact hO10
       have E10 := hide (below_grownC E9.out (Nat.le_succ_of_le L6.out) O9.out hG10)
       clear hO10 hG10 hA10 B10 P9 O9 Q9 E9
       go_roundw
       case rel => exact ⟨i + 1, by omega, by go_num, O10, P10, E10⟩
       case measure => simp [intOf]; omega
   · obtain rfl : i = n := by omega
     have d1 : decide ((i : Int) < (i : Int)) = false := decide_eq_false (by omega)
     have hli : l.take i = l := List.take_of_length_le (by rw [Hn.out]; omega)
     rw [hli] at HO HP
     obtain ⟨hok, _⟩ := state_atM He.out HI.out (by rw [Hn.out]; exact hn2) l.length (by omega)
     rw [List.take_length] at hok
     have hdl := doneM_le eps l none
     have KF := fun w => r_finS eps (stateM eps none l) He.out hok w
     have ld := ld_all HP.out uMid rfl iMid (stR_size _ _)
     have hel : ((endM (stateM eps none l)).map coM).length ≤ 1 := by rcases stateM eps none l with _ | ⟨a1, a2, a3⟩ <;> simp [endM]
     have hal : (allM eps l).map coM = (doneM eps none l).map coM ++ (endM (stateM eps none l)).map coM := by unfold allM; rw [List.map_append]
     obtain ⟨q, hq⟩ : ∃ q, (endM (stateM eps none l)).map coM = q := ⟨_, rfl⟩
     obtain ⟨T, hT⟩ : ∃ T, (doneM eps none l).map coM = T := ⟨_, rfl⟩
     rw [hq] at KF hel
     rw [hT] at HO
     have hTl : T.length ≤ i := by have := Hn.out; rw [← hT, List.length_map]; omega
     rw [hq, hT] at hal
     have Hal := hide hal
     obtain ⟨X, hX⟩ : ∃ X, stR eps (stateM eps none l) = X := ⟨_, rfl⟩
     rw [hX] at KF ld HP
     have KF := hide KF
     have hle : T.length + q.length ≤ 8796093022208 := by omega
     have hgW := HP.out.lt
     clear hok hdl hq hT hX hal hli
     go_wp2_with (first
       | (refine wl_load (by kernel_rfl) rfl rfl ld ?_)
       | (go_at_call 31; (with_reducible refine (KF.out _).mono ?_); rintro e w6 ⟨A6, k6, rfl, hO6, hE6⟩; have O6 := hide (HO.out.ext hE6); have Q6 := hide (own_co hO6); have E6 := hide (HE.out.trans hE6); have hz6 : g + 1 ≤ w6.heap.size := (Nat.le_trans hgW hE6.size); clear hO6 hE6 ld)
       | (at_builtin; refine wl_appendC rfl (.tmp 48) (.tmp 49) rfl (g + 1) _ T q rfl O6.out A6 _ k6 rfl Q6.out rfl hle hz6 ?_; intro v10 w10 hO10 hG10 hA10; have E10 := hide (below_grownC E6.out (Nat.le_succ_of_le L6.out) O6.out hG10); have O10 := hide hO10; clear hO10 hG10 hA10))
     obtain ⟨A1, c1, rfl, _, _, _⟩ := O10.out.at_
     go_ret2
     rw [Hal.out]
     exact ⟨A1, c1, rfl, O10.out.less (Nat.le_succ_of_le L6.out), E10.out⟩
theorem r_allF (A : Option Addr) (n c : Nat) (l : List Int) (eps : Int) (W : World) (hl : TimesAt W A l) (hn : l.length = n) : Calls Try.prog 18 #[.slice A n c, .int .i64 eps] W (CoFin (allF eps l).1 (allF eps l).2 W) := by
 unfold allF
 cases ht : tolB eps with
 | false => exact r_allT A n c eps W ht
 | true =>
   rw [if_pos rfl]
   by_cases h : 1073741824 < l.length
   · rw [if_pos h]
     exact r_allL A n c eps W ht (by omega)
   · rw [if_neg h]
     exact r_allG A n c l eps W (tolB_iff.1 ht) hl hn (by omega)
end
section
open Go Go.RowKit Go.Shelf
def KpM (m go lw : Nat) (A B : World) : Prop := A.heap.size ≤ B.heap.size ∧ (∀ k, k < m → k ≠ go → k ≠ lw → B.heap[k]? = A.heap[k]?) ∧ ∀ k cs t fr, m ≤ k → A.heap[k]? = some (.cells cs t fr) → t ≠ 46 → B.heap[k]? = A.heap[k]?
attribute [local go_sem] Oper.semAt_some
set_option maxHeartbeats 6400000 in
set_option maxRecDepth 100000 in
theorem p_segs1 (nd : Nat) (hnd : 1 ≤ nd) (A : Option Addr) (n c : Nat) (l : List Int) (eps : Int) (he : Tol eps) (hn2 : n ≤ 1073741824) (hn : l.length = n) (Bs Bl Bg go lw : Nat) (J : List (List (Int × Int)) → World → Prop) (W : World)
   (hs : Blk W Bs 23 (miR eps 0 0 0)) (hs1 : Bs ≠ go ∧ Bs ≠ lw) (hl : W.cell? ⟨Bl, 0, none⟩ = some (.slice A n c)) (hl1 : Bl ≠ go ∧ Bl ≠ lw ∧ Bl < W.heap.size) (hg : Blk W Bg 75 sgF) (hg1 : Bg ≠ go ∧ Bg ≠ lw) (ht : TimesAt W A l) (ht1 : 0 < n → ∀ b off, A = some ⟨b, off, none⟩ → b ≠ go ∧ b ≠ lw)
   (hJE : ∀ pre A B, J pre A → Ext A B → J pre B) (hJU : ∀ pre A B b cs, W.heap.size ≤ b → Blk A b 23 cs → J pre A → Upd b A B → J pre B) (h0 : J [] W)
   (hY : ∀ pre W1 A1 k q, J pre W1 → OwnC 0 W1 (.slice A1 q.length k) q → q.length ≤ 1 → pre.length ≤ n → YieldAt Fence.wide (nd - 1) Try.prog lw #[.slice A1 q.length k] W1 fun e W' => e = .returned (.bool true) ∧ J (pre ++ [q]) W' ∧ KpM W.heap.size go lw W1 W') :
   CallsIn Fence.wide nd Try.prog 47 #[.func (.yield lw) #[] #[], .pointer (some ⟨Bs, 0, none⟩), .pointer (some ⟨Bl, 0, none⟩), .pointer (some ⟨Bg, 0, none⟩)] W fun e W' => (∃ v, e = .returned v) ∧ ∃ qs : List (List (Int × Int)), qs.flatten = (allM eps l).map coM ∧ J qs W' := by
 have s0 : W.cell? ⟨Bs, 0, none⟩ = some (.int .i64 eps) := hs.cell 0
 have s1 : W.cell? ⟨Bs, 1, none⟩ = some (.int .i64 0) := hs.cell 1
 have s2 : W.cell? ⟨Bs, 2, none⟩ = some (.int .i64 0) := hs.cell 2
 have s3 : W.cell? ⟨Bs, 3, none⟩ = some (.int .i64 0) := hs.cell 3
 have E5 := ext_alloc W (.cells #[.int .i64 eps, .int .i64 0, .int .i64 0, .int .i64 0] 23)
 have l5 := (E5.cell (p := ⟨Bl, 0, none⟩) hl1.2.2).trans hl
 have hen : ∀ a w, (callFunc 41 a).run Try.prog w = .ok (.enter 41 a) w := fun a w => by go_simp
 refine callsIn_of_wp Try.func47 rfl trivial ?_ rfl
 simp only [Try.ntmps47, List.size_toArray, List.length_cons, List.length_nil, Nat.reduceAdd, Nat.reduceSub, Array.replicate_succ, Array.replicate_zero, List.push_toArray, List.append_toArray, List.nil_append, List.cons_append]
 gi_wp2
 have HJ0 := hide (hJE [] W _ h0 E5)
 have P5 := hide (Blk.new W 23 (stR eps none))
 have He := hide he
 have Hn := hide hn
 have Ht := hide ht
 have Ht1 := hide ht1
 have HG := hide hg
 have Hg1 := hide hg1
 have HY := hide hY
 have HJE := hide hJE
 have HJU := hide hJU
 have HI := hide ht.1
 have hgW := hg.lt
 obtain ⟨m, hm⟩ : ∃ m, W.heap.size = m := ⟨_, rfl⟩
 obtain ⟨w1, hw1⟩ : ∃ w, W.alloc (.cells #[.int .i64 eps, .int .i64 0, .int .i64 0, .int .i64 0] 23) = w := ⟨_, rfl⟩
 have P5 : Hid (Blk w1 m 23 (stR eps (stateM eps none (l.take 0)))) := by rw [← hw1, ← hm]; exact P5
 rw [hw1] at HJ0 E5
 rw [hw1, hm]
 have E5 := hide E5
 rw [hm] at hgW HY HJU
 clear he hn ht ht1 hg hg1 hY hJE hJU h0 hs hs1 hl hl1 s0 s1 s2 s3 l5 hw1
 gi_loopw [7, 8, 9, 13] (fun _ _ _ iv wr => ∃ (k : Nat) (qs : List (List (Int × Int))), k ≤ n ∧ iv = .int .i64 (k : Int) ∧ qs.length = k ∧ Hid (qs.flatten = (doneM eps none (l.take k)).map coM) ∧ Hid (J qs wr) ∧ Hid (Blk wr m 23 (stR eps (stateM eps none (l.take k)))) ∧ Hid (W.heap.size ≤ wr.heap.size ∧ ∀ k, k < m → k ≠ go → k ≠ lw → wr.heap[k]? = W.heap[k]?)) (fun _ _ _ iv _ => n - (intOf iv).toNat)
 case atStart => exact ⟨0, [], by omega, rfl, rfl, hide (by simp [doneM]), HJ0, P5, hide ⟨E5.out.size, fun k hk _ _ => E5.out.block k (by omega)⟩⟩
 case round =>
   clear HJ0 P5 E5
   obtain ⟨k, qs, hk, rfl, hql, HX, HJ, HP, HK⟩ := hrel
   have kb : ∀ {B : Nat} {t : TypeId} {cs : Array Value}, B < m → B ≠ go → B ≠ lw → Blk W B t cs → Blk wr B t cs := fun h1 h2 h3 h => (HK.out.2 _ h1 h2 h3).trans h
   have G1 := hide (kb hgW Hg1.out.1 Hg1.out.2 HG.out)
   have T1 : Hid (TimesAt wr A l) := hide (by
     by_cases h0 : 0 < n
     · exact Ht.out.keep HK.out.1 (fun b off hA hb => HK.out.2 b (by omega) (Ht1.out h0 b off hA).1 (Ht1.out h0 b off hA).2)
     · obtain rfl : l = [] := List.length_eq_zero_iff.1 (by rw [Hn.out]; omega)
       exact TimesAt.nil _ _)
   clear kb
   obtain ⟨hok, hcnt⟩ := state_atM He.out HI.out (by rw [Hn.out]; exact hn2) k (by rw [Hn.out]; exact hk)
   have hmw := HP.out.lt
   by_cases hlt : k < n
   · have d1 : decide ((k : Int) < (n : Int)) = true := decide_eq_true (by omega)
     have him : k < l.length := by rw [Hn.out]; exact hlt
     obtain ⟨bm, om, rfl, _, hc⟩ := T1.out.2.2 (by omega)
     have ct := hc k him
     have ix := fun w => idxT bm om n c k hlt w
     have hv : l[k]? = some (l.getD k 0) := by rw [List.getElem?_eq_getElem him]; simp [List.getD_eq_getElem?_getD, him]
     have iv := HI.out.get k
     obtain ⟨hdone, hst⟩ := done_snocM eps hv
     obtain ⟨v, hvv⟩ : ∃ v, l.getD k 0 = v := ⟨_, rfl⟩
     rw [hvv] at ct hv iv hdone hst
     have KS := fun w => p_stepS eps (stateM eps none (l.take k)) v He.out hok (by omega) iv w
     obtain ⟨s, hs⟩ : ∃ s, stateM eps none (l.take k) = s := ⟨_, rfl⟩
     rw [hs] at KS hst HP hdone
     rw [← hst] at KS
     obtain ⟨q, hq⟩ : ∃ q, (stepM eps s v).2.map coM = q := ⟨_, rfl⟩
     have hq1 : q.length ≤ 1 := by
       rw [← hq, List.length_map]
       rcases s with _ | ⟨a1, a2, a3⟩
       · simp [stepM]
       · simp only [stepM]; split <;> simp
     have hdm : (qs ++ [q]).flatten = (doneM eps none (l.take (k + 1))).map coM := by rw [hdone, List.map_append, hq, List.flatten_append, HX.out]; simp
     rw [hq] at KS
     obtain ⟨c0, lo0, hi0, hr0⟩ := row_of eps s
     obtain ⟨c1, lo1, hi1, hr1⟩ := row_of eps (stateM eps none (l.take (k + 1)))
     rw [hr0] at KS HP
     rw [hr1] at KS
     have KS := hide KS
     have Hr1 := hide hr1
     have Hdm := hide hdm
     have e0 : wr.cell? ⟨m, 0, none⟩ = some (.int .i64 eps) := HP.out.cell 0
     have e1 : wr.cell? ⟨m, 1, none⟩ = some (.int .i64 c0) := HP.out.cell 1
     have e2 : wr.cell? ⟨m, 2, none⟩ = some (.int .i64 lo0) := HP.out.cell 2
     have e3 : wr.cell? ⟨m, 3, none⟩ = some (.int .i64 hi0) := HP.out.cell 3
     have f0 : wr.cell? ⟨Bg, 0, none⟩ = some (.func (.func 45) #[] #[]) := G1.out.cell 0
     have f1 : wr.cell? ⟨Bg, 1, none⟩ = some (.func (.func 46) #[] #[]) := G1.out.cell 1
     have f2 : wr.cell? ⟨Bg, 2, none⟩ = some (.func (.func 41) #[] #[]) := G1.out.cell 2
     unfold miR sgF at KS
     clear hc hvv hv hdone hst hok hcnt hs hq hr0 hr1 hdm him iv
     gi_wp2
     refine ⟨trivial, (callsIn_wide.2 (KS.out _)).mono ?_⟩
     rintro e w3 ⟨A3, k3, rfl, hO3, hE3⟩
     have EA := ext_alloc w3 (.cells #[.int .i64 eps, .int .i64 c1, .int .i64 lo1, .int .i64 hi1] 23)
     have B8 := Blk.new w3 23 #[.int .i64 eps, .int .i64 c1, .int .i64 lo1, .int .i64 hi1]
     have E4 := hE3.trans EA
     have hJ4 := HJE.out qs wr _ HJ.out E4
     obtain ⟨fn, tmps, assign, body, hy, hR⟩ := HY.out qs _ A3 k3 q hJ4 ((hO3.ext EA).less (Nat.zero_le _)) hq1 (by omega)
     (try dsimp only at hy)
     have hR := hide hR
     have E4 := hide E4
     have B8 := hide B8
     have h38 : m ≤ w3.heap.size := by have := hE3.size; omega
     clear EA hO3 hE3 hJ4 e0 e1 e2 e3 f0 f1 f2 ct
     gi_wp2
     refine hR.out.mono ?_
     rintro e w5 ⟨rfl, hJ5, hK5⟩
     have P5 : Blk w5 m _ _ := (hK5.2.2 m _ _ _ (Nat.le_refl _) (HP.out.ext E4.out) (by decide)).trans (HP.out.ext E4.out)
     have P8 : Blk w5 w3.heap.size _ _ := (hK5.2.2 _ _ _ _ h38 B8.out (by decide)).trans B8.out
     have hK6 : W.heap.size ≤ w5.heap.size ∧ ∀ k, k < m → k ≠ go → k ≠ lw → w5.heap[k]? = W.heap[k]? := ⟨by have h1 := HK.out.1; have h2 := E4.out.size; have h3 := hK5.1; omega, fun j h1 h2 h3 => (hK5.2.1 j h1 h2 h3).trans ((E4.out.block j (by omega)).trans (HK.out.2 j h1 h2 h3))⟩
     obtain ⟨b8, hb8⟩ : ∃ b, w3.heap.size = b := ⟨_, rfl⟩
     rw [hb8] at P8
     rw [hb8]
     have c0' : w5.cell? ⟨b8, 0, none⟩ = some (.int .i64 eps) := P8.cell 0
     have c1' : w5.cell? ⟨b8, 1, none⟩ = some (.int .i64 c1) := P8.cell 1
     have c2' : w5.cell? ⟨b8, 2, none⟩ = some (.int .i64 lo1) := P8.cell 2
     have c3' : w5.cell? ⟨b8, 3, none⟩ = some (.int .i64 hi1) := P8.cell 3
     have g0' : w5.cell? ⟨m, 0, none⟩ = some (.int .i64 eps) := P5.cell 0
     have g1' : w5.cell? ⟨m, 1, none⟩ = some (.int .i64 c0) := P5.cell 1
     have g2' : w5.cell? ⟨m, 2, none⟩ = some (.int .i64 lo0) := P5.cell 2
     have g3' : w5.cell? ⟨m, 3, none⟩ = some (.int .i64 hi0) := P5.cell 3
     have z0 := P5.frozen 0
     have z1 := P5.frozen 1
     have z2 := P5.frozen 2
     have z3 := P5.frozen 3
     have U9 := ((((Upd.refl m w5).set 0 (.int .i64 eps)).set 1 (.int .i64 c1)).set 2 (.int .i64 lo1)).set 3 (.int .i64 hi1)
     have P9 := (((P5.set_ 0 (.int .i64 eps)).set_ 1 (.int .i64 c1)).set_ 2 (.int .i64 lo1)).set_ 3 (.int .i64 hi1)
     have J9 := hide (HJU.out (qs ++ [q]) w5 _ m _ (Nat.le_refl _) P5 hJ5 U9)
     have K9 : Hid (W.heap.size ≤ (((((w5.setCell ⟨m, 0, none⟩ (.int .i64 eps)).setCell ⟨m, 1, none⟩ (.int .i64 c1)).setCell ⟨m, 2, none⟩ (.int .i64 lo1)).setCell ⟨m, 3, none⟩ (.int .i64 hi1))).heap.size ∧ ∀ k, k < m → k ≠ go → k ≠ lw → (((((w5.setCell ⟨m, 0, none⟩ (.int .i64 eps)).setCell ⟨m, 1, none⟩ (.int .i64 c1)).setCell ⟨m, 2, none⟩ (.int .i64 lo1)).setCell ⟨m, 3, none⟩ (.int .i64 hi1))).heap[k]? = W.heap[k]?) := hide ⟨Nat.le_trans hK6.1 U9.2.2.2.1, fun j h1 h2 h3 => (U9.2.2.2.2 j (by omega) (by omega)).trans (hK6.2 j h1 h2 h3)⟩
     have P9 : Hid (Blk (((((w5.setCell ⟨m, 0, none⟩ (.int .i64 eps)).setCell ⟨m, 1, none⟩ (.int .i64 c1)).setCell ⟨m, 2, none⟩ (.int .i64 lo1)).setCell ⟨m, 3, none⟩ (.int .i64 hi1))) m 23 (stR eps (stateM eps none (l.take (k + 1))))) := by show Blk _ _ _ _; rw [Hr1.out]; exact P9
     clear hJ5 hK5 hK6 U9 P5 P8 hR E4 B8 HP HK HJ
     gi_wp2
     go_roundw
     case rel => exact ⟨k + 1, qs ++ [q], by omega, by go_num, by rw [List.length_append, hql]; rfl, Hdm, J9, P9, K9⟩
     case measure => simp [intOf]; omega
   · obtain rfl : k = n := by omega
     have d1 : decide ((k : Int) < (k : Int)) = false := decide_eq_false (by omega)
     have hli : l.take k = l := List.take_of_length_le (by rw [Hn.out]; omega)
     rw [hli] at HX HP hok
     have KE := fun w => p_endS eps (stateM eps none l) hok w
     obtain ⟨q, hq⟩ : ∃ q, (endM (stateM eps none l)).map coM = q := ⟨_, rfl⟩
     have hq1 : q.length ≤ 1 := by rw [← hq, List.length_map]; rcases stateM eps none l with _ | ⟨a1, a2, a3⟩ <;> simp [endM]
     have hdm : (qs ++ [q]).flatten = (allM eps l).map coM := by unfold allM; rw [List.map_append, hq, List.flatten_append, HX.out]; simp
     rw [hq] at KE
     obtain ⟨c0, lo0, hi0, hr0⟩ := row_of eps (stateM eps none l)
     rw [hr0] at KE HP
     have KE := hide KE
     have Hdm := hide hdm
     have e0 : wr.cell? ⟨m, 0, none⟩ = some (.int .i64 eps) := HP.out.cell 0
     have e1 : wr.cell? ⟨m, 1, none⟩ = some (.int .i64 c0) := HP.out.cell 1
     have e2 : wr.cell? ⟨m, 2, none⟩ = some (.int .i64 lo0) := HP.out.cell 2
     have e3 : wr.cell? ⟨m, 3, none⟩ = some (.int .i64 hi0) := HP.out.cell 3
     have f2 : wr.cell? ⟨Bg, 2, none⟩ = some (.func (.func 41) #[] #[]) := G1.out.cell 2
     unfold miR at KE
     clear hli hok hcnt hq hr0 hdm
     gi_wp2
     refine ⟨trivial, (callsIn_wide.2 (KE.out _)).mono ?_⟩
     rintro e w3 ⟨A3, k3, rfl, hO3, hE3⟩
     have hJ4 := HJE.out qs wr _ HJ.out hE3
     obtain ⟨fn, tmps, assign, body, hy, hR⟩ := HY.out qs _ A3 k3 q hJ4 (hO3.less (Nat.zero_le _)) hq1 (by omega)
     (try dsimp only at hy)
     have hR := hide hR
     clear hO3 hE3 hJ4 e0 e1 e2 e3 f2
     gi_wp2
     refine hR.out.mono ?_
     rintro e w5 ⟨rfl, hJ5, hK5⟩
     have J5 := hide hJ5
     clear hJ5 hK5
     gi_wp2
     go_end0
     exact ⟨⟨_, rfl⟩, qs ++ [q], Hdm.out, J5.out⟩
end
section
open Go Go.RowKit Go.Shelf
def BdM (m go : Nat) (A B : World) : Prop := A.heap.size ≤ B.heap.size ∧ (∀ k, k < m → k ≠ go → B.heap[k]? = A.heap[k]?) ∧ ∀ k cs t fr, m ≤ k → A.heap[k]? = some (.cells cs t fr) → t ≠ 46 → B.heap[k]? = A.heap[k]?
theorem range_read {α : Type} (N : Nat) {g : Operand} {ps : Array Tmp} {assign body : Code} {Q : Exit → Act → World → Prop} {a : Act} {w : World} {n : Nat} (h1 : 1 ≤ n) {gf go : Nat} {lb : Array Value} (hgo : go < w.heap.size) (hg : a.eval g = .func (.func gf) #[] lb)
   (eg : ∀ args w, (callFunc gf args).run Try.prog w = .ok (.enter gf args) w) (encs : α → Array Value) (hps : ∀ x, (encs x).size = ps.size) (Rd : α → World → Prop) (S : List α → Prop) (I : List α → World → Prop) (a₁ : α → Act)
   (hseq : ∀ (J : List α → World → Prop) (W1 : World), Ext w W1 → W1.heap.size = w.heap.size + 2 → (∀ pre A B, J pre A → Ext A B → J pre B) → (∀ pre A B b cs, W1.heap.size ≤ b → Blk A b 23 cs → J pre A → Upd b A B → J pre B) → J [] W1 →
     (∀ pre W2 x, J pre W2 → Rd x W2 → pre.length < N → YieldAt Fence.wide (n - 1 - 1) Try.prog (w.heap.size + 1) (encs x) W2 fun e W' => e = .returned (.bool true) ∧ J (pre ++ [x]) W' ∧ KpM W1.heap.size go (w.heap.size + 1) W2 W') →
     CallsIn Fence.wide (n - 1) Try.prog gf (#[.func (.yield (w.heap.size + 1)) #[] #[]] ++ lb) W1 fun e W' => (∃ v, e = .returned v) ∧ ∃ xs, S xs ∧ J xs W')
   (hIE : ∀ pre A B, I pre A → Ext A B → I pre B) (hIU : ∀ pre A B b cs, w.heap.size + 2 ≤ b → Blk A b 23 cs → I pre A → Upd b A B → I pre B) (hIP : ∀ pre A j o o', w.heap.size ≤ j → A.heap[j]? = some o → o.isCells = false → I pre A → I pre (A.putObj j o'))
   (hRP : ∀ x A j o o', A.heap[j]? = some o → o.isCells = false → Rd x A → Rd x (A.putObj j o')) (h0 : I [] w)
   (hassign : ∀ (x : α) (W : World) (K : Act → World → Prop), K (a₁ x) W → assign.wpIn (Fence.wide.inRound (w.heap.size + 1)) (n - 1 - 1) Try.prog (Exit.then K (fun _ _ _ => False)) { tmps := (ps.zip (encs x)).foldl (fun t (p, v) => t.setIfInBounds p v) a.tmps, defers := [] } W)
   (hbody : ∀ (pre : List α) (x : α) (W : World), I pre W → Rd x W → pre.length < N → w.heap.size + 2 ≤ W.heap.size → body.wpIn (Fence.wide.inRound (w.heap.size + 1)) (n - 1 - 1) Try.prog (fun e _ W' => e = .normal ∧ BdM (w.heap.size + 2) go W W' ∧ I (pre ++ [x]) W') (a₁ x) W)
   (hdone : ∀ (xs : List α) (W : World), S xs → I xs W → W.heap[w.heap.size]? = some (.deferred (some [])) → Q .normal { a with defers := { target := .collected w.heap.size, args := #[] } :: a.defers } W) :
   (Code.rangeFunc g ps assign body).wpIn Fence.wide n Try.prog Q a w := by
 refine wpIn_rangeFunc ?_
 intro fn hfn
 rw [show Fence.wide.round = none from rfl]
 obtain ⟨rec, hrec⟩ : ∃ rec : LoopState → Option Code → Loop, rec = fun st pe => { state := st, pending := pe, fn, tmps := a.tmps, params := ps, assign, body, defers := w.heap.size } := ⟨_, rfl⟩
 obtain ⟨D, hD⟩ : ∃ D, w.heap.size = D := ⟨_, rfl⟩
 obtain ⟨W1, hW1⟩ : ∃ W1, (w.alloc (.deferred (some []))).alloc (.loop (rec .ready none)) = W1 := ⟨_, rfl⟩
 have hE1 : Ext w W1 := by rw [← hW1]; exact (ext_alloc _ _).trans (ext_alloc _ _)
 have hs1 : W1.heap.size = w.heap.size + 2 := by rw [← hW1]; simp only [alloc_size]
 have hL1 : W1.heap[w.heap.size + 1]? = some (.loop (rec .ready none)) := by
   have := World.alloc_heap_new (w.alloc (.deferred (some []))) (.loop (rec .ready none))
   rw [alloc_size, hW1] at this
   exact this
 have hK1 : W1.heap[w.heap.size]? = some (.deferred (some [])) := by
   have h := World.alloc_heap_new w (.deferred (some []))
   have := (ext_alloc (w.alloc (.deferred (some []))) (.loop (rec .ready none))).block w.heap.size (by rw [alloc_size]; omega)
   rw [hW1] at this
   exact this.trans h
 refine ⟨w.heap.size + 1, [{ target := .collected w.heap.size, args := #[] }], W1, { target := .fn (.func gf) lb, args := #[.func (.yield (w.heap.size + 1)) #[] #[]] }, W1, gf, #[.func (.yield (w.heap.size + 1)) #[] #[]] ++ lb, W1, ?_, ?_, ?_, ?_, fun _ => h1, ?_⟩
 · rw [← hW1, hrec]; exact run_enterLoop_outer _ _ _ _ _
 · simp only [resolve, hg]
   simp [go_sem]
 · intro f' hf'; simp [Target.leads] at hf'; subst hf'; trivial
 · simp [invoke, go_sem, eg]
 have ne1 : ∀ {A B : World} {b : Nat} {cs : Array Value} {o : Obj} {j : Nat}, Blk A b 23 cs → Upd b A B → A.heap[j]? = some o → o.isCells = false → B.heap[j]? = some o := fun hb hu hj ho =>
   (hu.2.2.2.2 _ (Array.getElem?_eq_some_iff.1 hj).1 (fun e => by subst e; unfold Blk at hb; rw [hb] at hj; cases hj; cases ho)).trans hj
 refine (hseq (fun pre W => I pre W ∧ W.heap[w.heap.size + 1]? = some (.loop (rec .ready none)) ∧ W.heap[w.heap.size]? = some (.deferred (some []))) W1 hE1 hs1
   (fun pre A B h e => ⟨hIE _ _ _ h.1 e, (e.block _ (Array.getElem?_eq_some_iff.1 h.2.1).1).trans h.2.1, (e.block _ (Array.getElem?_eq_some_iff.1 h.2.2).1).trans h.2.2⟩)
   (fun pre A B b cs hb hB h u => ⟨hIU _ _ _ _ _ (by omega) hB h.1 u, ne1 hB u h.2.1 rfl, ne1 hB u h.2.2 rfl⟩) ⟨hIE _ _ _ h0 hE1, hL1, hK1⟩ ?_).mono ?_
 · rintro pre W2 x ⟨hi, hl, hk⟩ hr hN
   have hlt : w.heap.size + 1 < W2.heap.size := (Array.getElem?_eq_some_iff.1 hl).1
   have hy := run_yield (P := Try.prog) (args := encs x) hl (by rw [hrec]; exact hps x)
   rw [hrec] at hy
   refine ⟨fn, _, assign, body, hy, roundIn_of_wpIn hfn (hassign x W2 _ ⟨_, run_beginRound hl (by rw [hrec]), ?_⟩)⟩
   have hz : (W2.putObj (w.heap.size + 1) (.loop { rec .ready none with state := .busy })).heap.size = W2.heap.size := by simp [World.putObj]
   have hl2 : (W2.putObj (w.heap.size + 1) (.loop { rec .ready none with state := .busy })).heap[w.heap.size + 1]? = some (.loop { rec .ready none with state := .busy }) := World.putObj_heap_same hlt
   have hk2 : (W2.putObj (w.heap.size + 1) (.loop { rec .ready none with state := .busy })).heap[w.heap.size]? = some (.deferred (some [])) := (World.putObj_heap_other (by omega)).trans hk
   refine wpIn_mono (hbody pre x _ (hIP _ _ _ _ _ (by omega) hl rfl hi) (hRP _ _ _ _ _ hl rfl hr) hN (by rw [hz]; omega)) ?_
   rintro e a3 W3 ⟨rfl, hB, hi3⟩
   have hl3 := (hB.2.1 (w.heap.size + 1) (by omega) (by omega)).trans hl2
   have hk3 := (hB.2.1 w.heap.size (by omega) (by omega)).trans hk2
   have hr3 := run_endRound (P := Try.prog) none hl3
   rw [hrec] at hr3
   have hlt3 : w.heap.size + 1 < W3.heap.size := (Array.getElem?_eq_some_iff.1 hl3).1
   refine ⟨_, _, hr3, rfl, ⟨hIP _ _ _ _ _ (by omega) hl3 rfl hi3, ?_, (World.putObj_heap_other (by omega)).trans hk3⟩, ?_, fun k h1 h2 h3 => ?_, fun k cs t fr h1 h2 h3 => ?_⟩
   · rw [hrec]
     exact World.putObj_heap_same hlt3
   · have := hB.1
     rw [hz] at this
     simpa [World.putObj] using this
   · rw [World.putObj_heap_other (by omega), hB.2.1 k (by omega) h2, World.putObj_heap_other (by omega)]
   · have hkk : k ≠ w.heap.size + 1 := by omega
     have e2 : (W2.putObj (w.heap.size + 1) (.loop { rec .ready none with state := .busy })).heap[k]? = W2.heap[k]? := World.putObj_heap_other (by omega)
     rw [World.putObj_heap_other (by omega), hB.2.2 k cs t fr (by omega) (e2.trans h2) h3, e2]
 · rintro e W2 ⟨⟨v, rfl⟩, xs, hS, hi, hl, hk⟩
   have hr := run_endLoop (P := Try.prog) hl (by rw [hrec]; simp)
   rw [hrec] at hr
   exact ⟨none, _, hr, hdone xs _ hS (hIP _ _ _ _ _ (by omega) hl rfl hi) ((World.putObj_heap_other (by omega)).trans hk)⟩
end
end Go.Proofs.Ythcnbpeeekkgkaa
