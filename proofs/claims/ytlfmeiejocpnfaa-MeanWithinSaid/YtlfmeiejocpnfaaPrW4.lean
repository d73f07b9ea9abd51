/- Part 4 of what these claims stand on: contracts of the program's and the reference's functions, and plain facts. Conditions: each states its own. -/
import Derived.Test.YtlfmeiejocpnfaaPrW3
import Derived.Laws.Tables
import Derived.Great.BuildSlice
import Derived.Deep.RegionLaw
import Derived.Laws.EntriesVeiled
import Derived.Deep.RegionHeld3
import Derived.ShutString
import Derived.ChangeOld
import Derived.Below
namespace Go.Proofs.Ytlfmeiejocpnfaa
set_option linter.unusedVariables false
set_option linter.unusedSimpArgs false
section
open Go Go.RowKit
theorem info_co : (Try.prog.info? 53).map (fun i => (i.zero, i.size, i.bytes)) = some (some (.agg #[.int .i64 0, .int .i64 0]), 2, 16) := by kernel_rfl
def OwnC (B : Nat) (w : World) (v : Value) (l : List (Int × Int)) : Prop := w.ownsRow B 53 2 v l.length (s8s l) ∧ IsS l
theorem OwnC.at_ {B : Nat} {w : World} {v : Value} {l : List (Int × Int)} (h : OwnC B w v l) : ∃ A cap, v = .slice A l.length cap ∧ l.length ≤ cap ∧ cap ≤ 9223372036854775807 ∧ SampsAt w A l := by
 rcases h.1.2 with ⟨rfl, h0⟩ | ⟨g, cap, cur, rfl, hg, hh, hnc, hcp, hcs, htake⟩
 · obtain rfl : l = [] := List.length_eq_zero_iff.1 h0
   exact ⟨none, 0, rfl, Nat.le_refl _, by omega, SampsAt.nil _ _⟩
 · unfold maxLen at hcp
   have e : ∀ j, (⟨g, 0, none⟩ : Addr).add j = ⟨g, 0 + j, none⟩ := fun j => by unfold Addr.add; split <;> simp_all
   refine ⟨_, cap, rfl, hnc, hcp, h.2, by omega, fun _ => ⟨g, 0, rfl, (Array.getElem?_eq_some_iff.1 hh).1, fun j hj => ?_⟩⟩
   have hs := s8s_get l j hj
   have h1 := h.1.cells (g := g) rfl _ _ hs.1
   have h2 := h.1.cells (g := g) rfl _ _ hs.2
   rw [e] at h1 h2
   exact ⟨h1, h2⟩
theorem OwnC.kept {B : Nat} {w w' : World} {v : Value} {l : List (Int × Int)} (h : OwnC B w v l) {row : Option Nat} (hg : w.grownBy w' row) (hne : v.ownBlock = none ∨ v.ownBlock ≠ row) : OwnC B w' v l := ⟨h.1.kept hg hne, h.2⟩
theorem OwnC.alloc {B : Nat} {w : World} {v : Value} {l : List (Int × Int)} (h : OwnC B w v l) (o : Obj) : OwnC B (w.alloc o) v l := ⟨h.1.alloc o, h.2⟩
theorem OwnC.drew {B : Nat} {w : World} {v : Value} {l : List (Int × Int)} (h : OwnC B w v l) : OwnC B w.drew v l := h
theorem OwnC.nil_ (B : Nat) (w : World) : OwnC B w (.slice none 0 0) [] := ⟨World.ownsRow_nil _ _ _ _, IsS.nil⟩
theorem OwnC.ext {B : Nat} {w w' : World} {v : Value} {l : List (Int × Int)} (h : OwnC B w v l) (e : Ext w w') : OwnC B w' v l := by
 refine ⟨?_, h.2⟩
 obtain ⟨h1, h2 | ⟨g, cap, cur, hv, hg, hh, r⟩⟩ := h.1
 · exact ⟨h1, Or.inl h2⟩
 · exact ⟨h1, Or.inr ⟨g, cap, cur, hv, hg, by rw [e.block g (Array.getElem?_eq_some_iff.1 hh).1]; exact hh, r⟩⟩
theorem OwnC.less {B B' : Nat} {w : World} {v : Value} {l : List (Int × Int)} (h : OwnC B w v l) (hB : B' ≤ B) : OwnC B' w v l := by
 refine ⟨?_, h.2⟩
 obtain ⟨h1, h2 | ⟨g, cap, cur, hv, hg, r⟩⟩ := h.1
 · exact ⟨h1, Or.inl h2⟩
 · exact ⟨h1, Or.inr ⟨g, cap, cur, hv, by omega, r⟩⟩
theorem OwnC.upd {B b : Nat} {w w' : World} {v : Value} {l : List (Int × Int)} (h : OwnC B w v l) (u : Upd b w w') (hb : b < B) : OwnC B w' v l := by
 refine ⟨?_, h.2⟩
 obtain ⟨h1, h2 | ⟨g, cap, cur, hv, hg, hh, r⟩⟩ := h.1
 · exact ⟨h1, Or.inl h2⟩
 · exact ⟨h1, Or.inr ⟨g, cap, cur, hv, hg, by rw [u.2.2.2.2 g (Array.getElem?_eq_some_iff.1 hh).1 (by omega)]; exact hh, r⟩⟩
theorem own_co {w : World} {A : Option Addr} {c cap B : Nat} {l : List (Int × Int)} (h : OwnC B w (.slice A c cap) l) : SampsAt w A l := by
 obtain ⟨A', cap', he, _, _, hw⟩ := h.at_
 cases he
 exact hw
theorem run_appendC (B : Nat) (w : World) (ty : TypeId) (v : Value) (l0 l : List (Int × Int)) (hown : OwnC B w v l0) (A : Option Addr) (m c : Nat) (hb : SampsAt w A l) (hm : l.length = m) (hlen : l0.length + l.length ≤ 8796093022208) (hbase : B ≤ w.heap.size) :
   ∃ v' w', (Builtin.append_ #[46, 46] ty #[v, .slice A m c]).run Try.prog w = .ok v' w' ∧ OwnC B w' v' (l0 ++ l) ∧ w.grownBy w' v.ownBlock ∧ (v'.ownBlock = v.ownBlock ∨ v'.ownBlock = some w.heap.size) := by
 subst hm
 obtain ⟨i0, hi0, hz0, hz1, hz2⟩ := info_parts2 info_co
 have h63 : l0.length + l.length ≤ maxLen := by unfold maxLen; omega
 rcases A with _ | ad
 · have h0 : l = [] := by
     rcases Nat.eq_zero_or_pos l.length with h | h
     · exact List.length_eq_zero_iff.1 h
     · obtain ⟨b, off, h', _⟩ := hb.2.2 h
       cases h'
   subst h0
   refine ⟨v, w, ?_, by rw [List.append_nil]; exact hown, World.grownBy.refl w _, .inl rfl⟩
   rcases hown.1.2 with ⟨rfl, _⟩ | ⟨g, cap, cur, rfl, _, _, hnc, _⟩
   · simp [Builtin.append_, run_underlying Try.underlying46, sizeOf, typeInfo, hi0, Builtin.lenOf, Builtin.firstCells]
   · simp [Builtin.append_, run_underlying Try.underlying46, sizeOf, typeInfo, hi0, Builtin.lenOf, Builtin.firstCells, hnc, storeCells]
 · have hcells : ∀ j u, (s8s l)[j]? = some u → w.cell? (ad.add j) = some u := by
     intro j u hu
     have hj : j < l.length * 2 := by
       rcases Nat.lt_or_ge j (s8s l).length with h | h
       · rwa [s8s_len] at h
       · rw [List.getElem?_eq_none h] at hu; cases hu
     obtain ⟨b, off, h', _, hc⟩ := hb.2.2 (by omega)
     obtain rfl : ad = ⟨b, off, none⟩ := Option.some.inj h'
     have hs := s8s_get l (j / 2) (by omega)
     have hcj := hc (j / 2) (by omega)
     rw [add_at]
     rcases Nat.mod_two_eq_zero_or_one j with h | h
     · have e : 2 * (j / 2) = j := by omega
       rw [e] at hs hcj
       rw [hcj.1, ← hu, hs.1]
     · have e : 2 * (j / 2) + 1 = j := by omega
       rw [e] at hs hcj
       rw [hcj.2, ← hu, hs.2]
   obtain ⟨v', w', hrun, h2, h3, _, h5⟩ := run_append_own_at (P := Try.prog) w B 46 ty 53 i0 _ 2 16 Try.underlying46 hi0 hz0 hz1 hz2 rfl (by omega) v l0.length (s8s l0) hown.1 ad l.length c (s8s l) (s8s_len l) hcells (s8s_one l) h63 (by omega) hbase
   refine ⟨v', w', hrun, ⟨?_, hown.2.app hb.1⟩, h3, h5⟩
   rw [s8s_app, List.length_append]
   exact h2
theorem wl_appendC {ops : Array Oper} {rest : List Oper} {o : Oper} {a : Act} {Q : Exit → Act → World → Prop} {w : World} (hgd : o.guard = none) (s x : Operand)
   (ho : o.op = .call { callee := .builtin .append, args := #[s, x], argTypes := #[46, 46] })
   (B : Nat) (v : Value) (l0 l : List (Int × Int)) (hs : a.eval s = v) (hown : OwnC B w v l0) (A : Option Addr) (m c : Nat) (hx : a.eval x = .slice A m c) (hb : SampsAt w A l) (hm : l.length = m) (hlen : l0.length + l.length ≤ 8796093022208) (hbase : B ≤ w.heap.size)
   (h : ∀ v' w', OwnC B w' v' (l0 ++ l) → w.grownBy w' v.ownBlock → (v'.ownBlock = v.ownBlock ∨ v'.ownBlock = some w.heap.size) → wpList Try.prog ops Q rest (a.put o.dst v') w') : wpList Try.prog ops Q (o :: rest) a w :=
 wpList_plain hgd fun _ hK => by
   obtain ⟨v', w', hrun, h2, h3, h4⟩ := run_appendC B w o.type v l0 l hown A m c hb hm hlen hbase
   unfold Oper.wp execOp
   simp only [ho, resolve, invoke, builtin, Sem.run_bind, Sem.run_pure, Result.andThen_ok, List.map_toArray, List.map_cons, List.map_nil, hs, hx, hrun]
   exact hK _ _ (h v' w' h2 h3 h4)
theorem below_grownC {W w w' : World} {v : Value} {l : List (Int × Int)} {B : Nat} (h : Below W.heap.size W w) (hB : W.heap.size ≤ B) (hown : OwnC B w v l) (hg : w.grownBy w' v.ownBlock) : Below W.heap.size W w' :=
 h.grown hg h.size (fun k hk => by
   obtain ⟨h1, h2⟩ := hown.1.lt k hk
   omega)
theorem idxC (b off N cap j : Nat) (h : j < N) (w : World) : (Instr.indexAt 46 (.slice (some ⟨b, off, none⟩) N cap) (.int .i64 (j : Int))).run Try.prog w = .ok (.pointer (some ⟨b, off + 2 * j, none⟩)) w := by
 have hz := Try.sizeOf53
 have he : Try.prog.elem 46 = 53 := by kernel_rfl
 have hr := run_indexAt_slice (P := Try.prog) (w := w) 46 ⟨b, off, none⟩ N cap .i64 (j : Int) (by kernel_rfl)
 rw [hr, if_pos ⟨by omega, by omega⟩, he, hz]
 simp [Result.andThen, add_at, Nat.mul_comm]
theorem step_appendC {ops : Array Oper} {o : Oper} {a : Act} {K : Act → World → Prop} {Q : Exit → Act → World → Prop} {w : World} {E : Prop} (hgd : o.guard = none) (s x : Operand)
   (ho : o.op = .call { callee := .builtin .append, args := #[s, x], argTypes := #[46, 46] })
   (B : Nat) (v : Value) (l0 l : List (Int × Int)) (hs : a.eval s = v) (A : Option Addr) (m c : Nat) (hx : a.eval x = .slice A m c) (hown : OwnC B w v l0) (hb : SampsAt w A l) (hm : l.length = m) (hlen : l0.length + l.length ≤ 8796093022208) (hbase : B ≤ w.heap.size)
   (h : ∀ v' w', OwnC B w' v' (l0 ++ l) → w.grownBy w' v.ownBlock → (v'.ownBlock = v.ownBlock ∨ v'.ownBlock = some w.heap.size) → K (a.put o.dst v') w') :
   if Region.wanted o (yielded ops a.tmps) = true then Oper.wp Try.prog o a w K Q else E := by
 have hw : Region.wanted o (yielded ops a.tmps) = true := by simp [Region.wanted, hgd]
 rw [if_pos hw]
 obtain ⟨v', w', hrun, h2, h3, h4⟩ := run_appendC B w o.type v l0 l hown A m c hb hm hlen hbase
 unfold Oper.wp execOp
 simp only [ho, resolve, invoke, builtin, Sem.run_bind, Sem.run_pure, Result.andThen_ok, List.map_toArray, List.map_cons, List.map_nil, hs, hx, hrun]
 exact h v' w' h2 h3 h4
end
section
open Go Go.RowKit Go.Sort
attribute [local go_sem] qUpon eUpon putE slE
def tolB (e : Int) : Bool := decide (0 ≤ e) && decide (e ≤ 4611686018427387904)
theorem tolB_iff {e : Int} : tolB e = true ↔ Tol e := by unfold tolB Tol; simp
theorem res2 {fn : Func} {p u : Tmp} {ty : TypeId} (h : fn.results = #[.cell p ty, .tmp u]) (tmps : Array Value) (w : World) (g : Nat) (t : TypeId) (cs : Array Value) (d : TypeDesc)
   (hp : tmps.getD p undef = .pointer (some ⟨g, 0, none⟩)) (hg : Blk w g t cs)
   (hu : Try.prog.underlying ty = some d) (hd : (match (generalizing := false) d with | .struct _ | .array _ _ => true | _ => false) = true) (hi : (Try.prog.info? ty).map (·.size) = some cs.size) :
   (results fn tmps).run Try.prog w = .ok (.tuple #[.agg cs, tmps.getD u undef]) w := by
 have hp' : tmps[p]?.getD undef = .pointer (some ⟨g, 0, none⟩) := by simpa using hp
 simp [results, h, hp', asAddr, run_loadVar_row w g t ty cs (0, 0) d hg hu (by cases d <;> first | rfl | exact hd) hi, Sem.run_bind, Result.andThen]
theorem q_buildM {a : Act} {o : Oper} {w : World} {t : TypeId} {parts : Array (Nat × Operand)} {vs : Array (Nat × Value)} {cells : Array Value} (ho : o.op = .build t parts) (hx : (parts.map fun (i, x) => (i, a.eval x)) = vs) (h : Try.prog.built t vs.toList = some cells) : qUpon Try.prog w (.agg cells) ((execOp a.eval o).run Try.prog w) := by
 have hr := run_build (P := Try.prog) w t vs cells h
 unfold execOp
 simp only [ho, hx, Sem.run_bind, hr, Result.andThen_ok, Sem.run_pure]
 exact ⟨rfl, rfl⟩
def CoGet (l : List (Int × Int)) (W : World) (e : Ending) (w' : World) : Prop := ∃ A c, e = .returned (.slice A l.length c) ∧ OwnC W.heap.size w' (.slice A l.length c) l ∧ Ext W w'
def CoFin (l : List (Int × Int)) (er : Nat) (W : World) (e : Ending) (w' : World) : Prop := ∃ A c, e = .returned (.tuple #[.slice A l.length c, .int .i64 (er : Int)]) ∧ OwnC W.heap.size w' (.slice A l.length c) l ∧ Ext W w'
theorem one_co {w : World} {B : Nat} {c m : Int} (hc : I64 c) (hm : I64 m) (hB : B ≤ w.heap.size) : OwnC B (w.alloc (.cells #[.int .i64 c, .int .i64 m] 53)) (.slice (some ⟨w.heap.size, 0, none⟩) 1 1) [(c, m)] := by
 refine ⟨⟨rfl, Or.inr ⟨w.heap.size, 1, _, rfl, hB, heap_alloc_new w _, Nat.le_refl _, by unfold maxLen; omega, rfl, rfl⟩⟩, IsS.one hc hm⟩
def CoPair (R : Array Value) (l : List (Int × Int)) (W : World) (e : Ending) (w' : World) : Prop := ∃ A k, e = .returned (.tuple #[.agg R, .slice A l.length k]) ∧ OwnC W.heap.size w' (.slice A l.length k) l ∧ Ext W w'
theorem tol64 {eps : Int} (he : Tol eps) : I64 eps := ⟨by have := he.1; omega, by have := he.2; omega⟩
theorem eqC2 (a b a' b' : Int) (w : World) : (binOp .eql 53 (.agg #[.int .i64 a, .int .i64 b]) (.agg #[.int .i64 a', .int .i64 b'])).run Try.prog w = .ok (.bool (a == a' && b == b')) w := by
 have hS : Try.prog.underlying 53 = some (.struct (Try.prog.fieldsOf 53)) := by kernel_rfl
 have hp : Try.prog.stoodInHeld 53 = false := by kernel_rfl
 have u := Try.underlying2
 have z := Try.sizeOf2
 have u2 := Try.underlying3
 have z2 := Try.sizeOf3
 rw [run_eql_struct, show (10000 : Nat) = 9999 + 1 from rfl, run_equalIn_agg w 9999 53 _ _ hS hp]
 simp only [Program.fieldsOf, Try.underlying53]
 have he : ∀ (x y : Int) (w : World), (Op.equalIn 9999 2 (.int .i64 x) (.int .i64 y)).run Try.prog w = .ok (x == y) w := fun x y w => run_equalIn_int w 9998 2 .i64 .i64 x y u
 have he2 : ∀ (x y : Int) (w : World), (Op.equalIn 9999 3 (.int .i64 x) (.int .i64 y)).run Try.prog w = .ok (x == y) w := fun x y w => run_equalIn_int w 9998 3 .i64 .i64 x y u2
 simp [Op.eqFields, Go.part, isAgg, run_underlying u, run_underlying u2, u, u2, z, z2, he, he2]
 by_cases h0 : a = a' <;> by_cases h1 : b = b' <;> simp [h0, h1]
structure Lk (W : World) (A : Option Addr) (n : Nat) (m : List Int) (w : World) : Prop where
 e : Ext W w
 o : TimesAt w A m
 len : m.length = n
theorem Lk.ext {W w w' : World} {A : Option Addr} {n : Nat} {m : List Int} (s : Lk W A n m w) (k : Ext w w') : Lk W A n m w' := ⟨s.e.trans k, s.o.ext k, s.len⟩
theorem getT {l : List Int} {j : Nat} (h : j < l.length) : l[j]? = some (l.getD j 0) := by rw [List.getElem?_eq_getElem h]; simp [List.getD_eq_getElem?_getD, h]
theorem run_uptoT (A : Option Addr) (n k cap : Nat) (hk : k ≤ cap) (hc : cap ≤ 9223372036854775807) (w : World) : (Instr.slice 43 (.slice A n cap) none (some (.int .i64 (k : Int))) none).run Try.prog w = .ok (.slice A k cap) w := by
 have he : Try.prog.elem 43 = 2 := by kernel_rfl
 have hz := Try.sizeOf2
 rw [run_slice_h w 43 A n cap (by kernel_rfl) .i64 k (by omega) (by omega), he, hz]
 simp [Result.andThen, sliced]
 intro _
 cases A <;> simp [Addr.add]
theorem idxLL (g N cap j : Nat) (h : j < N) (w : World) : (Instr.indexAt 51 (.slice (some ⟨g, 0, none⟩) N cap) (.int .i64 (j : Int))).run Try.prog w = .ok (.pointer (some ⟨g, j, none⟩)) w := by
 have hz := Try.sizeOf43
 have he : Try.prog.elem 51 = 43 := by kernel_rfl
 have hr := run_indexAt_slice (P := Try.prog) (w := w) 51 ⟨g, 0, none⟩ N cap .i64 (j : Int) (by kernel_rfl)
 rw [hr, if_pos ⟨by omega, by omega⟩, he, hz]
 simp [Result.andThen, add_at]
end
section
open Go Go.ChangeShapes Go.WideShapes Go.ChangeAt Go.RowKit
def meR (t c lo hi : Int) (s : Bool) (a b d e : Nat) : Array Value := #[.int .i64 t, .int .i64 c, .int .i64 lo, .int .i64 hi, .bool s, .int .u64 (a : Int), .int .u64 (b : Int), .int .u64 (d : Int), .int .u64 (e : Int)]
end
section
open Go Go.RowKit Go.Sort
def meC (t c lo hi z : Int) : Array Value := meR t c lo hi (sg z) (l0 z) (l1 z) (l2 z) (l3 z)
def z9m : Array Value := #[.int .i64 0, .int .i64 0, .int .i64 0, .int .i64 0, .bool false, .int .u64 0, .int .u64 0, .int .u64 0, .int .u64 0]
theorem meC_one (t c lo hi z : Int) : (meC t c lo hi z).all (·.oneCell') = true := by kernel_rfl
theorem z9m_one : z9m.all (·.oneCell') = true := by kernel_rfl
theorem b_me0 : Try.prog.built 27 [] = some z9m := by kernel_rfl
theorem b_meT (e : Int) : Try.prog.built 27 [(0, .int .i64 e)] = some (meC e 0 0 0 0) := by rw [show meC e 0 0 0 0 = #[.int .i64 e, .int .i64 0, .int .i64 0, .int .i64 0, .bool false, .int .u64 0, .int .u64 0, .int .u64 0, .int .u64 0] by unfold meC meR; rfl]; kernel_rfl
theorem b_me5 (t c lo hi z : Int) : Try.prog.built 27 [(0, .int .i64 t), (1, .int .i64 c), (2, .int .i64 lo), (3, .int .i64 hi), (4, .agg #[.bool (sg z), .int .u64 (l0 z : Int), .int .u64 (l1 z : Int), .int .u64 (l2 z : Int), .int .u64 (l3 z : Int)])] = some (meC t c lo hi z) := by kernel_rfl
theorem meC_sum (t c lo hi z : Int) : (meC t c lo hi z).extract 4 9 = #[.bool (sg z), .int .u64 (l0 z : Int), .int .u64 (l1 z : Int), .int .u64 (l2 z : Int), .int .u64 (l3 z : Int)] := by kernel_rfl
theorem uMean : Try.prog.underlying 27 = some (.struct (Try.prog.fieldsOf 27)) := by kernel_rfl
theorem iMean : (Try.prog.info? 27).map (·.size) = some 9 := by kernel_rfl
end
section
open Go Go.RowKit Go.Sort
def z5 : Array Value := #[.bool false, .int .u64 0, .int .u64 0, .int .u64 0, .int .u64 0]
theorem uWide : Try.prog.underlying 25 = some (.struct (Try.prog.fieldsOf 25)) := by kernel_rfl
theorem iWide : (Try.prog.info? 25).map (·.size) = some 5 := by kernel_rfl
theorem q_idx {a : Act} {o : Oper} {w : World} {ty : TypeId} {x i : Operand} {u j v : Value} (ho : o.op = .indexAddr ty x i) (hx : a.eval x = u) (hi : a.eval i = j) (hr : (Instr.indexAt ty u j).run Try.prog w = .ok v w) : qUpon Try.prog w v ((execOp a.eval o).run Try.prog w) := by
 unfold execOp
 simp only [ho, hx, hi, Sem.run_bind, hr, Result.andThen_ok, Sem.run_pure]
 exact ⟨rfl, rfl⟩
end
section
open Go Go.RowKit
set_option maxRecDepth 100000 in
set_option maxHeartbeats 2000000 in
theorem p_int64 (s : Bool) (a b c d : Nat) (z : Int) (w : World) (h : IsW s a b c d z) :
   Calls Try.prog 77 #[.agg #[.bool s, .int .u64 (a : Int), .int .u64 (b : Int), .int .u64 (c : Int), .int .u64 (d : Int)]] w (PairRet .i64 (if -9223372036854775808 ≤ z ∧ z ≤ 9223372036854775807 then z else 0) (decide (-9223372036854775808 ≤ z ∧ z ≤ 9223372036854775807)) w) := by
 obtain ⟨r, hr⟩ : ∃ r, (if -9223372036854775808 ≤ z ∧ z ≤ 9223372036854775807 then z else 0) = r := ⟨_, rfl⟩
 obtain ⟨o, ho⟩ : ∃ o, decide (-9223372036854775808 ≤ z ∧ z ≤ 9223372036854775807) = o := ⟨_, rfl⟩
 rw [hr, ho]
 have hlow : mag4 a b c d < 18446744073709551616 → a = mag4 a b c d := by intro h; simp only [mag4, val] at h ⊢; omega
 have hz := h.2.2.2.2
 have ha := h.1
 have HX := hide (ext_alloc w (.cells #[.bool s, .int .u64 (a : Int), .int .u64 (b : Int), .int .u64 (c : Int), .int .u64 (d : Int)] 25))
 obtain ⟨n, hn⟩ : ∃ n, mag4 a b c d = n := ⟨_, rfl⟩
 rw [hn] at hlow hz
 clear h
 have yes : -9223372036854775808 ≤ z → z ≤ 9223372036854775807 → z = r ∧ true = o := fun h1 h2 => ⟨by rw [← hr, if_pos ⟨h1, h2⟩], by rw [← ho]; symm; rw [decide_eq_true_iff]; exact ⟨h1, h2⟩⟩
 have no : ¬ (-9223372036854775808 ≤ z ∧ z ≤ 9223372036854775807) → 0 = r ∧ false = o := fun h1 => ⟨by rw [← hr, if_neg h1], by rw [← ho]; symm; rw [decide_eq_false_iff_not]; exact h1⟩
 by_cases hb : n < 18446744073709551616
 · have hO : Hid (decide (mag4 a b c d < 18446744073709551616) = true) := by unfold Hid; rw [decide_eq_true_iff, hn]; exact hb
   replace hlow := hlow hb
   have hcase : (s = true ∧ a ≤ 9223372036854775807 ∧ -(a : Int) = r ∧ true = o) ∨ (s = false ∧ a ≤ 9223372036854775807 ∧ (a : Int) = r ∧ true = o) ∨ (s = true ∧ a = 9223372036854775808 ∧ -9223372036854775808 = r ∧ true = o) ∨ (s = false ∧ 9223372036854775808 ≤ a ∧ 0 = r ∧ false = o) ∨ (s = true ∧ 9223372036854775808 < a ∧ 0 = r ∧ false = o) := by
     cases s
     · simp only [Bool.false_eq_true, if_false] at hz
       by_cases h1 : a ≤ 9223372036854775807
       · have := yes (by omega) (by omega); exact Or.inr (Or.inl ⟨rfl, h1, by omega, this.2⟩)
       · have := no (by omega); exact Or.inr (Or.inr (Or.inr (Or.inl ⟨rfl, by omega, this⟩)))
     · simp only [if_true] at hz
       by_cases h1 : a ≤ 9223372036854775807
       · have := yes (by omega) (by omega); exact Or.inl ⟨rfl, h1, by omega, this.2⟩
       · by_cases h2 : a = 9223372036854775808
         · have := yes (by omega) (by omega); exact Or.inr (Or.inr (Or.inl ⟨rfl, h2, by omega, this.2⟩))
         · have := no (by omega); exact Or.inr (Or.inr (Or.inr (Or.inr ⟨rfl, by omega, this⟩)))
   clear hlow hz hn hr ho yes no hb
   rcases hcase with ⟨rfl, h1, h2⟩ | ⟨rfl, h1, h2⟩ | ⟨rfl, h1, h2⟩ | ⟨rfl, h1, h2⟩ | ⟨rfl, h1, h2⟩
   · have HR := hide h2
     have hI : (a : Int) ≤ 9223372036854775807 := by omega
     have hw : Hid (wrap64 (-wrap64 (a : Int)) = -(a : Int)) := by unfold Hid; simp only [wrap64]; omega
     clear h1 h2
     go_enter Try.func77, Try.ntmps77
     go_wp2_with (go_at_call 89; refine (p_oneWord a b c d _ ha).mono ?_; rintro e' w' ⟨rfl, hE⟩; rw [hO.out]; have q := one_kept hE; obtain ⟨c0, c1, c2, c3, c4, f0, f1, f2, f3, f4⟩ := five_cells q; have HE := hide (HX.out.trans hE); clear q hE)
     all_goals go_ret2
     all_goals exact ⟨rb2' (by rw [← HR.out.1]) HR.out.2, HE.out⟩
   · have HR := hide h2
     have hI : (a : Int) ≤ 9223372036854775807 := by omega
     clear h1 h2
     go_enter Try.func77, Try.ntmps77
     go_wp2_with (go_at_call 89; refine (p_oneWord a b c d _ ha).mono ?_; rintro e' w' ⟨rfl, hE⟩; rw [hO.out]; have q := one_kept hE; obtain ⟨c0, c1, c2, c3, c4, f0, f1, f2, f3, f4⟩ := five_cells q; have HE := hide (HX.out.trans hE); clear q hE)
     all_goals go_ret2
     all_goals exact ⟨rb2' (by rw [← HR.out.1]) HR.out.2, HE.out⟩
   · have HR := hide h2
     have hI : ¬ ((a : Int) ≤ 9223372036854775807) := by omega
     have hJ : ((a : Int) == 9223372036854775808) = true := by simp; omega
     clear h1 h2
     go_enter Try.func77, Try.ntmps77
     go_wp2_with (go_at_call 89; refine (p_oneWord a b c d _ ha).mono ?_; rintro e' w' ⟨rfl, hE⟩; rw [hO.out]; have q := one_kept hE; obtain ⟨c0, c1, c2, c3, c4, f0, f1, f2, f3, f4⟩ := five_cells q; have HE := hide (HX.out.trans hE); clear q hE)
     all_goals go_ret2
     all_goals exact ⟨rb2' (by rw [← HR.out.1]) HR.out.2, HE.out⟩
   · have HR := hide h2
     have hI : ¬ ((a : Int) ≤ 9223372036854775807) := by omega
     clear h1 h2
     go_enter Try.func77, Try.ntmps77
     go_wp2_with (go_at_call 89; refine (p_oneWord a b c d _ ha).mono ?_; rintro e' w' ⟨rfl, hE⟩; rw [hO.out]; have q := one_kept hE; obtain ⟨c0, c1, c2, c3, c4, f0, f1, f2, f3, f4⟩ := five_cells q; have HE := hide (HX.out.trans hE); clear q hE)
     all_goals go_ret2
     all_goals exact ⟨rb2' (by rw [← HR.out.1]) HR.out.2, HE.out⟩
   · have HR := hide h2
     have hI : ¬ ((a : Int) ≤ 9223372036854775807) := by omega
     have hJ : ((a : Int) == 9223372036854775808) = false := by simp; omega
     clear h1 h2
     go_enter Try.func77, Try.ntmps77
     go_wp2_with (go_at_call 89; refine (p_oneWord a b c d _ ha).mono ?_; rintro e' w' ⟨rfl, hE⟩; rw [hO.out]; have q := one_kept hE; obtain ⟨c0, c1, c2, c3, c4, f0, f1, f2, f3, f4⟩ := five_cells q; have HE := hide (HX.out.trans hE); clear q hE)
     all_goals go_ret2
     all_goals exact ⟨rb2' (by rw [← HR.out.1]) HR.out.2, HE.out⟩
 · have hO : Hid (decide (mag4 a b c d < 18446744073709551616) = false) := by unfold Hid; rw [decide_eq_false_iff_not, hn]; exact hb
   have HR : Hid (0 = r ∧ false = o) := no (by cases s <;> simp only [Bool.false_eq_true, if_false, if_true] at hz <;> omega)
   clear hlow hz hn hr ho yes no hb
   go_enter Try.func77, Try.ntmps77
   go_wp2_with (go_at_call 89; refine (p_oneWord a b c d _ ha).mono ?_; rintro e' w' ⟨rfl, hE⟩; rw [hO.out]; have q := one_kept hE; obtain ⟨c0, c1, c2, c3, c4, f0, f1, f2, f3, f4⟩ := five_cells q; have HE := hide (HX.out.trans hE); clear q hE)
   all_goals go_ret2
   all_goals exact ⟨rb2' HR.out.1 HR.out.2, HE.out⟩
end
section
open Go Go.RowKit
def TmRet (r : List Int × Int × Int) (W : World) (e : Ending) (w' : World) : Prop := ∃ v, e = .returned (.tuple #[v, .int .i64 r.2.1, .int .i64 r.2.2]) ∧ OwnT W.heap.size w' v r.1 ∧ Ext W w'
theorem TmRet.parts {r : List Int × Int × Int} {W : World} {e : Ending} {w' : World} (h : TmRet r W e w') : ∃ A cap, e = .returned (.tuple #[.slice A r.1.length cap, .int .i64 r.2.1, .int .i64 r.2.2]) ∧ r.1.length ≤ cap ∧ cap ≤ 9223372036854775807 ∧ OwnT W.heap.size w' (.slice A r.1.length cap) r.1 ∧ TimesAt w' A r.1 ∧ Ext W w' := by
 obtain ⟨v, rfl, hO, hE⟩ := h
 obtain ⟨A, cap, rfl, h1, h2, h3⟩ := hO.at_
 exact ⟨A, cap, rfl, h1, h2, hO, h3, hE⟩
end
section
open Go Go.RowKit
def TimesPost (N B b : Nat) (W : World) (e : Ending) (w' : World) : Prop := ∃ A n cap l, e = .returned (.slice A n cap) ∧ l.length = n ∧ n ≤ N ∧ n ≤ cap ∧ cap ≤ 9223372036854775807 ∧ incB l = true ∧ OwnT W.heap.size w' (.slice A n cap) l ∧ TapeOk B w' b ∧ Upd b W w'
theorem shr_le {u q k : Nat} (hu : u < 18446744073709551616) (h : k ≤ q) : u >>> q ≤ 18446744073709551615 / 2 ^ k := by
 rw [Nat.shiftRight_eq_div_pow]
 exact Nat.le_trans (Nat.div_le_div_left (Nat.pow_le_pow_right (by omega) h) (Nat.two_pow_pos k)) (Nat.div_le_div_right (by omega))
theorem incB_init {l : List Int} {x : Int} (h : incB (l ++ [x]) = true) : incB l = true := by
 rw [incB_iff] at h ⊢
 intro i hi
 have := h i (by simp; omega)
 rwa [getD_appL [x] (by omega), getD_appL [x] (by omega)] at this
set_option maxHeartbeats 6400000 in
set_option maxRecDepth 100000 in
theorem t_times (N B b : Nat) (hN : N ≤ 1000) (W : World) (hT : TapeOk B W b) : Calls Try.prog 60 #[.pointer (some ⟨b, 0, none⟩), .int .i64 (N : Int)] W (TimesPost N B b W) := by
 have hbW := hT.2.1
 have i5 : I64 5 := ⟨by omega, by omega⟩
 have i50 : I64 50 := ⟨by omega, by omega⟩
 have i9 : I64 9 := ⟨by omega, by omega⟩
 have i3 : I64 3 := ⟨by omega, by omega⟩
 have i56 : I64 56 := ⟨by omega, by omega⟩
 have i8 : I64 8 := ⟨by omega, by omega⟩
 have iN : I64 ((N : Int) + 1) := ⟨by omega, by omega⟩
 have HT := hide hT
 clear hT
 go_enter Try.func60, Try.ntmps60
 go_upto_region 3 with (go_at_call 11; (with_reducible refine (t_next B b 5 _ i5 HT.out).mono ?_); rintro e w1 ⟨s, rfl, hs, T1, u1⟩; obtain ⟨kd, rfl⟩ := Int.eq_ofNat_of_zero_le hs.1; have hkd : kd < 5 := (by have := hs.2.1 (by omega); omega); have T1 := hide T1; have U1 := hide u1; clear hs u1)
 go_upto_region 4 with (go_at_call 25; (with_reducible refine (t_int B b W _ T1.out U1.out).mono ?_); rintro e w2 ⟨at0, rfl, ha, T2, u2⟩; have T2 := hide T2; have U2 := hide u2; clear u2 T1 U1)
 go_upto_region 5 with (go_at_call 11; (with_reducible refine (t_next B b 50 _ i50 T2.out).mono ?_); rintro e w3 ⟨s, rfl, hs, T3, u3⟩; obtain ⟨s0, rfl⟩ := Int.eq_ofNat_of_zero_le hs.1; have hs0 : s0 < 50 := (by have := hs.2.1 (by omega); omega); obtain ⟨st, hst⟩ : ∃ st, 1 + s0 = st := ⟨_, rfl⟩; have es : IntKind.u64.wrap ((1 : Int) + (s0 : Int)) = (st : Int) := (by rw [wrap_u64']; omega); have T3 := hide T3; have U3 := hide (U2.out.trans u3); clear hs u3 T2 U2)
 have hst1 : 1 ≤ st := by omega
 have hst2 : st ≤ 50 := by omega
 clear hst es
 go_upto_region 6 with (go_at_call 11; (with_reducible refine (t_next B b ((N : Int) + 1) _ iN T3.out).mono ?_); rintro e w4 ⟨s, rfl, hs, T4, u4⟩; obtain ⟨i0, rfl⟩ := Int.eq_ofNat_of_zero_le hs.1; have hi0 : i0 ≤ N := (by have := hs.2.1 (by omega); omega); have T4 := hide T4; have U4 := hide (U3.out.trans u4); clear hs u4 T3 U3)
 have HA0 := hide ha
 clear ha HT
 go_wp2_with fail
 go_loopw [5, 7, 9] (fun lv av iv wr => ∃ (i : Nat) (a : Int) (ll : List Int), iv = .int .i64 (i : Int) ∧ av = .int .i64 a ∧ ll.length + i ≤ N ∧ Hid (I64 a) ∧ Hid (incB (ll ++ [a]) = true) ∧ Hid (OwnT W.heap.size wr lv ll) ∧ Hid (TapeOk B wr b) ∧ Hid (Upd b W wr)) (fun _ _ iv _ => (intOf iv).toNat)
 case atStart => exact ⟨i0, at0, [], rfl, rfl, by simp; omega, HA0, hide (by simp [incB]), hide (OwnT.nil_ _ _), T4, U4⟩
 case round =>
   clear T4 U4 HA0
   obtain ⟨i, a, ll, rfl, rfl, hli, HA, HI, HO, HT, HU⟩ := hrel
   by_cases h0 : 0 < i
   · have d0 : decide ((0 : Int) < (i : Int)) = true := decide_eq_true (by omega)
     have O5 := hide (HO.out.alloc (.cells #[Value.int .i64 a] 2))
     have hone := hide (one_atT wr a HA.out _ rfl)
     have T5 := hide (HT.out.alloc (.cells #[Value.int .i64 a] 2))
     have U5 := hide (HU.out.trans (Ext.upd (ext_alloc wr (.cells #[Value.int .i64 a] 2)) b))
     have hsz : W.heap.size ≤ (wr.alloc (.cells #[Value.int .i64 a] 2)).heap.size := U5.out.2.2.2.1
     have hle5 : ll.length + [a].length ≤ 17592186044416 := (by simp; omega)
     clear HO HT HU
     go_upto_region 9 with (at_builtin; refine wl_appendT rfl (.tmp 27) (.tmp 29) rfl W.heap.size _ ll [a] rfl O5.out _ 1 1 rfl hone.out rfl hle5 hsz ?_; intro v6 w6 hO6 hG6 hA6; have hG := O5.out.1.lt; have O6 := hide hO6; have T6 := hide (T5.out.below (grown_below hG6 (b + 1) (by omega) (fun k hk => by have := (hG k hk).1; omega))); have U6 := hide (upd_grown U5.out hG6 (fun k hk => (hG k hk).1)); clear hO6 hG6 hA6 hG O5 T5 U5 hone hsz)
     have hal := HA.out
     unfold I64 at hal
     obtain ⟨mm, hmm⟩ : ∃ mm : Nat, (9223372036854775807 : Int) - a = (mm : Int) := ⟨(9223372036854775807 - a).toNat, by omega⟩
     have em : IntKind.u64.wrap (9223372036854775807 - IntKind.u64.wrap a) = (mm : Int) := by rw [wrap_u64', wrap_u64']; omega
     have KE : Hid (∀ d : Nat, d ≤ mm → wrap64 (IntKind.u64.wrap (IntKind.u64.wrap a + (d : Int))) = a + (d : Int)) := hide (fun d hd => by rw [wrap_u64', wrap_u64']; simp only [wrap64]; omega)
     have KI : Hid (∀ d : Nat, 1 ≤ d → d ≤ mm → I64 (a + (d : Int)) ∧ incB (ll ++ [a] ++ [a + (d : Int)]) = true) := hide (fun d h1 h2 => ⟨⟨by omega, by omega⟩, incB_snoc (i := ll.length) HI.out (by simp) (by rw [getD_end]; omega)⟩)
     have hl2 : (ll ++ [a]).length = ll.length + 1 := by simp
     clear hal hmm hle5
     obtain rfl | rfl | rfl | rfl | rfl : kd = 0 ∨ kd = 1 ∨ kd = 2 ∨ kd = 3 ∨ kd = 4 := by omega
     · go_upto_region 20 with fail
       by_cases hcm : mm < st
       · have dm : decide ((mm : Int) < (st : Int)) = true := decide_eq_true (by omega)
         have dm2 : decide (mm < st) = true := decide_eq_true hcm
         go_wp2_with fail
         go_ret
         obtain ⟨A, cap, hv, h1, h2, h3⟩ := O6.out.at_
         have hO := O6.out
         subst hv
         exact ⟨A, _, cap, ll ++ [a], rfl, rfl, by omega, h1, h2, HI.out, hO, T6.out, U6.out⟩
       · have dm : decide ((mm : Int) < (st : Int)) = false := decide_eq_false (by omega)
         have dm2 : decide (mm < st) = false := decide_eq_false hcm
         have ea := KE.out (st) (by omega)
         obtain ⟨ki, kj⟩ := KI.out (st) (by omega) (by omega)
         obtain ⟨y, hy⟩ : ∃ y, a + ((st : Nat) : Int) = y := ⟨_, rfl⟩
         rw [hy] at ea ki kj
         have ki := hide ki
         have kj := hide kj
         clear hy
         go_wp2_with fail
         go_roundw
         case rel => exact ⟨i - 1, y, ll ++ [a], by go_num, by go_num, by omega, ki, kj, O6, T6, U6⟩
         case measure => simp [intOf]; omega
     · go_upto_region 20 with (go_at_call 11; (with_reducible refine (t_next B b 9 _ i9 T6.out).mono ?_); rintro e w7 ⟨s, rfl, hs, T7, u7⟩; obtain ⟨x, rfl⟩ := Int.eq_ofNat_of_zero_le hs.1; have hx : x < 9 := (by have := hs.2.1 (by omega); omega); obtain ⟨d, hd⟩ : ∃ d, 1 + x = d := ⟨_, rfl⟩; have e1 : IntKind.u64.wrap ((1 : Int) + (x : Int)) = (d : Int) := (by rw [wrap_u64']; omega); have T7 := hide T7; have U7 := hide (U6.out.trans u7); have O7 := hide (O6.out.upd u7 hbW); clear hs u7 T6 U6 O6)
       have hd1 : 1 ≤ d := by omega
       clear e1 hd
       by_cases hcm : mm < d
       · have dm : decide ((mm : Int) < (d : Int)) = true := decide_eq_true (by omega)
         have dm2 : decide (mm < d) = true := decide_eq_true hcm
         go_wp2_with fail
         go_ret
         obtain ⟨A, cap, hv, h1, h2, h3⟩ := O7.out.at_
         have hO := O7.out
         subst hv
         exact ⟨A, _, cap, ll ++ [a], rfl, rfl, by omega, h1, h2, HI.out, hO, T7.out, U7.out⟩
       · have dm : decide ((mm : Int) < (d : Int)) = false := decide_eq_false (by omega)
         have dm2 : decide (mm < d) = false := decide_eq_false hcm
         have ea := KE.out (d) (by omega)
         obtain ⟨ki, kj⟩ := KI.out (d) (by omega) (by omega)
         obtain ⟨y, hy⟩ : ∃ y, a + ((d : Nat) : Int) = y := ⟨_, rfl⟩
         rw [hy] at ea ki kj
         have ki := hide ki
         have kj := hide kj
         clear hy
         go_wp2_with fail
         go_roundw
         case rel => (repeat apply Exists.intro); exact ⟨⟨i - 1, y, ll ++ [a], by go_num, by go_num, by omega, ki, kj, O7, T7, U7⟩, rfl⟩
         case measure => simp [intOf]; omega
     · go_upto_region 20 with (go_at_call 11; (with_reducible refine (t_next B b 3 _ i3 T6.out).mono ?_); rintro e w7 ⟨s, rfl, hs, T7, u7⟩; obtain ⟨x, rfl⟩ := Int.eq_ofNat_of_zero_le hs.1; have hx : x < 3 := (by have := hs.2.1 (by omega); omega); have e0 : IntKind.u64.wrap (x : Int) = (x : Int) := (by rw [wrap_u64']; omega); obtain ⟨d, hd⟩ : ∃ d, st + x = d := ⟨_, rfl⟩; have e1 : IntKind.u64.wrap ((st : Int) + (x : Int)) = (d : Int) := (by rw [wrap_u64']; omega); have T7 := hide T7; have U7 := hide (U6.out.trans u7); have O7 := hide (O6.out.upd u7 hbW); clear hs u7 T6 U6 O6)
       have hd1 : 1 ≤ d := by omega
       clear e0 e1 hd
       by_cases hcm : mm < d
       · have dm : decide ((mm : Int) < (d : Int)) = true := decide_eq_true (by omega)
         have dm2 : decide (mm < d) = true := decide_eq_true hcm
         go_wp2_with fail
         go_ret
         obtain ⟨A, cap, hv, h1, h2, h3⟩ := O7.out.at_
         have hO := O7.out
         subst hv
         exact ⟨A, _, cap, ll ++ [a], rfl, rfl, by omega, h1, h2, HI.out, hO, T7.out, U7.out⟩
       · have dm : decide ((mm : Int) < (d : Int)) = false := decide_eq_false (by omega)
         have dm2 : decide (mm < d) = false := decide_eq_false hcm
         have ea := KE.out (d) (by omega)
         obtain ⟨ki, kj⟩ := KI.out (d) (by omega) (by omega)
         obtain ⟨y, hy⟩ : ∃ y, a + ((d : Nat) : Int) = y := ⟨_, rfl⟩
         rw [hy] at ea ki kj
         have ki := hide ki
         have kj := hide kj
         clear hy
         go_wp2_with fail
         go_roundw
         case rel => (repeat apply Exists.intro); exact ⟨⟨i - 1, y, ll ++ [a], by go_num, by go_num, by omega, ki, kj, O7, T7, U7⟩, rfl⟩
         case measure => simp [intOf]; omega
     · go_upto_region 20 with (first | (go_at_call 41; (with_reducible refine (t_word B b _ T6.out).mono ?_); rintro e w7 ⟨u, rfl, hu, T7, u7⟩; obtain ⟨xw, rfl⟩ := Int.eq_ofNat_of_zero_le hu.1; have hxw : xw < 18446744073709551616 := (by have := hu.2; omega); have T7 := hide T7; have U7 := hide (U6.out.trans u7); have O7 := hide (O6.out.upd u7 hbW); clear hu u7 T6 U6 O6) | (go_at_call 11; (with_reducible refine (t_next B b 56 _ i56 T7.out).mono ?_); rintro e w8 ⟨s, rfl, hs, T8, u8⟩; obtain ⟨x, rfl⟩ := Int.eq_ofNat_of_zero_le hs.1; have hx : x < 56 := (by have := hs.2.1 (by omega); omega); obtain ⟨q, hq⟩ : ∃ q : Nat, 4 + x = q := ⟨_, rfl⟩; have eq1 : (4 : Int) + (x : Int) = (q : Int) := (by omega); have hr := shr_le (q := q) (k := 4) hxw (by omega); have e1 := shr_cast xw q; obtain ⟨r, hrr⟩ : ∃ r, xw >>> q = r := ⟨_, rfl⟩; rw [hrr] at e1 hr; have hr2 : r ≤ 9223372036854775807 := (Nat.le_trans hr (by decide)); obtain ⟨d, hd⟩ : ∃ d, 1 + r = d := ⟨_, rfl⟩; have e2 : IntKind.u64.wrap ((1 : Int) + (r : Int)) = (d : Int) := (by rw [wrap_u64']; omega); have hq2 : q ≤ 64 := (by omega); clear hq hr hrr; have T8 := hide T8; have U8 := hide (U7.out.trans u8); have O8 := hide (O7.out.upd u8 hbW); clear hs u8 T7 U7 O7))
       have hd1 : 1 ≤ d := by omega
       clear e1 e2 eq1 hd
       by_cases hcm : mm < d
       · have dm : decide ((mm : Int) < (d : Int)) = true := decide_eq_true (by omega)
         have dm2 : decide (mm < d) = true := decide_eq_true hcm
         go_wp2_with fail
         go_ret
         obtain ⟨A, cap, hv, h1, h2, h3⟩ := O8.out.at_
         have hO := O8.out
         subst hv
         exact ⟨A, _, cap, ll ++ [a], rfl, rfl, by omega, h1, h2, HI.out, hO, T8.out, U8.out⟩
       · have dm : decide ((mm : Int) < (d : Int)) = false := decide_eq_false (by omega)
         have dm2 : decide (mm < d) = false := decide_eq_false hcm
         have ea := KE.out (d) (by omega)
         obtain ⟨ki, kj⟩ := KI.out (d) (by omega) (by omega)
         obtain ⟨y, hy⟩ : ∃ y, a + ((d : Nat) : Int) = y := ⟨_, rfl⟩
         rw [hy] at ea ki kj
         have ki := hide ki
         have kj := hide kj
         clear hy
         go_wp2_with fail
         go_roundw
         case rel => (repeat apply Exists.intro); exact ⟨⟨i - 1, y, ll ++ [a], by go_num, by go_num, by omega, ki, kj, O8, T8, U8⟩, rfl⟩
         case measure => simp [intOf]; omega
     · go_upto_if 59 with (go_at_call 61; (with_reducible refine (t_bool B b 4 _ _ (by omega) (by omega) T6.out (Upd.refl _ _)).mono ?_); rintro e w7 ⟨v, rfl, T7, u7⟩; have T7 := hide T7; have U7 := hide (U6.out.trans u7); have O7 := hide (O6.out.upd u7 hbW); clear u7 T6 U6 O6)
       cases v with
       | false =>
         go_upto_region 20 with fail
         by_cases hcm : mm < st
         · have dm : decide ((mm : Int) < (st : Int)) = true := decide_eq_true (by omega)
           have dm2 : decide (mm < st) = true := decide_eq_true hcm
           go_wp2_with fail
           go_ret
           obtain ⟨A, cap, hv, h1, h2, h3⟩ := O7.out.at_
           have hO := O7.out
           subst hv
           exact ⟨A, _, cap, ll ++ [a], rfl, rfl, by omega, h1, h2, HI.out, hO, T7.out, U7.out⟩
         · have dm : decide ((mm : Int) < (st : Int)) = false := decide_eq_false (by omega)
           have dm2 : decide (mm < st) = false := decide_eq_false hcm
           have ea := KE.out (st) (by omega)
           obtain ⟨ki, kj⟩ := KI.out (st) (by omega) (by omega)
           obtain ⟨y, hy⟩ : ∃ y, a + ((st : Nat) : Int) = y := ⟨_, rfl⟩
           rw [hy] at ea ki kj
           have ki := hide ki
           have kj := hide kj
           clear hy
           go_wp2_with fail
           go_roundw
           case rel => (repeat apply Exists.intro); exact ⟨⟨i - 1, y, ll ++ [a], by go_num, by go_num, by omega, ki, kj, O7, T7, U7⟩, rfl⟩
           case measure => simp [intOf]; omega
       | true =>
         go_upto_region 20 with (first | (go_at_call 41; (with_reducible refine (t_word B b _ T7.out).mono ?_); rintro e w8 ⟨u, rfl, hu, T8, u8⟩; obtain ⟨xw, rfl⟩ := Int.eq_ofNat_of_zero_le hu.1; have hxw : xw < 18446744073709551616 := (by have := hu.2; omega); have T8 := hide T8; have U8 := hide (U7.out.trans u8); have O8 := hide (O7.out.upd u8 hbW); clear hu u8 T7 U7 O7) | (go_at_call 11; (with_reducible refine (t_next B b 8 _ i8 T8.out).mono ?_); rintro e w9 ⟨s, rfl, hs, T9, u9⟩; obtain ⟨x, rfl⟩ := Int.eq_ofNat_of_zero_le hs.1; have hx : x < 8 := (by have := hs.2.1 (by omega); omega); obtain ⟨q, hq⟩ : ∃ q : Nat, 1 + x = q := ⟨_, rfl⟩; have eq1 : (1 : Int) + (x : Int) = (q : Int) := (by omega); have hr := shr_le (q := q) (k := 1) hxw (by omega); have e1 := shr_cast xw q; obtain ⟨r, hrr⟩ : ∃ r, xw >>> q = r := ⟨_, rfl⟩; rw [hrr] at e1 hr; have hr2 : r ≤ 9223372036854775807 := (Nat.le_trans hr (by decide)); obtain ⟨d, hd⟩ : ∃ d, 1 + r = d := ⟨_, rfl⟩; have e2 : IntKind.u64.wrap ((1 : Int) + (r : Int)) = (d : Int) := (by rw [wrap_u64']; omega); have hq2 : q ≤ 64 := (by omega); clear hq hr hrr; have T9 := hide T9; have U9 := hide (U8.out.trans u9); have O9 := hide (O8.out.upd u9 hbW); clear hs u9 T8 U8 O8))
         have hd1 : 1 ≤ d := by omega
         clear e1 e2 eq1 hd
         by_cases hcm : mm < d
         · have dm : decide ((mm : Int) < (d : Int)) = true := decide_eq_true (by omega)
           have dm2 : decide (mm < d) = true := decide_eq_true hcm
           go_wp2_with fail
           go_ret
           obtain ⟨A, cap, hv, h1, h2, h3⟩ := O9.out.at_
           have hO := O9.out
           subst hv
           exact ⟨A, _, cap, ll ++ [a], rfl, rfl, by omega, h1, h2, HI.out, hO, T9.out, U9.out⟩
         · have dm : decide ((mm : Int) < (d : Int)) = false := decide_eq_false (by omega)
           have dm2 : decide (mm < d) = false := decide_eq_false hcm
           have ea := KE.out (d) (by omega)
           obtain ⟨ki, kj⟩ := KI.out (d) (by omega) (by omega)
           obtain ⟨y, hy⟩ : ∃ y, a + ((d : Nat) : Int) = y := ⟨_, rfl⟩
           rw [hy] at ea ki kj
           have ki := hide ki
           have kj := hide kj
           clear hy
           go_wp2_with fail
           go_roundw
           case rel => (repeat apply Exists.intro); exact ⟨⟨i - 1, y, ll ++ [a], by go_num, by go_num, by omega, ki, kj, O9, T9, U9⟩, rfl⟩
           case measure => simp [intOf]; omega
   · have d0 : decide ((0 : Int) < (i : Int)) = false := decide_eq_false (by omega)
     go_wp2_with fail
     go_ret
     obtain ⟨A, cap, hv, h1, h2, h3⟩ := HO.out.at_
     have hO := HO.out
     subst hv
     exact ⟨A, _, cap, ll, rfl, rfl, by omega, h1, h2, incB_init HI.out, hO, HT.out, HU.out⟩
structure Bt (W : World) (B : Nat) (A : Option Addr) (n cap : Nat) (m : List Int) (w : World) : Prop where
 e : Ext W w
 t : TapeOk W.heap.size w W.heap.size
 o : OwnT B w (.slice A n cap) m
 gb : W.heap.size < B
section
variable {W : World} {B : Nat} {A : Option Addr} {n cap : Nat} {m : List Int} {w w' : World}
theorem Bt.ext (s : Bt W B A n cap m w) (k : Ext w w') : Bt W B A n cap m w' := ⟨s.e.trans k, s.t.ext k, s.o.ext k, s.gb⟩
theorem Bt.upd (s : Bt W B A n cap m w) (u : Upd W.heap.size w w') (t : TapeOk W.heap.size w' W.heap.size) : Bt W B A n cap m w' := ⟨Upd.ext u s.e (Nat.le_refl _), t, s.o.upd u s.gb, s.gb⟩
theorem Bt.times (s : Bt W B A n cap m w) : TimesAt w A m := own_times s.o
theorem Bt.of {w1 : World} (h1 : Ext W w1) (hT : TapeOk W.heap.size w1 W.heap.size) (o : OwnT w1.heap.size w (.slice A n cap) m) (t : TapeOk W.heap.size w W.heap.size) (u : Upd W.heap.size w1 w) : Bt W w1.heap.size A n cap m w := ⟨Upd.ext u h1 (Nat.le_refl _), t, o, hT.2.1⟩
end
end
section
open Go Go.RowKit
theorem wr64 (x : Int) : ∃ p, wrap64 x = p ∧ IntKind.i64.wrap x = p ∧ I64 p := ⟨wrap64 x, rfl, by rw [IntKind.wrap_i64]; simp only [wrap64], i64_wrap x⟩
theorem TimesAt.cell {w : World} {b off : Nat} {l : List Int} (h : TimesAt w (some ⟨b, off, none⟩) l) {j : Nat} (hj : j < l.length) : w.cell? ⟨b, off + j, none⟩ = some (.int .i64 (l.getD j 0)) := by
 obtain ⟨b', off', he, _, hc⟩ := h.2.2 (by omega)
 cases he
 exact hc j hj
def SampsPost (N B b : Nat) (W : World) (e : Ending) (w' : World) : Prop := ∃ A n cap l, e = .returned (.slice A n cap) ∧ l.length = n ∧ n ≤ N ∧ n ≤ cap ∧ cap ≤ 9223372036854775807 ∧ incB (l.map Prod.fst) = true ∧ OwnS W.heap.size w' (.slice A n cap) l ∧ TapeOk B w' b ∧ Upd b W w'
structure Sg (W : World) (B b B1 : Nat) (Am : Option Addr) (n cap : Nat) (m : List Int) (lv : Value) (ll : List (Int × Int)) (w : World) : Prop where
 t : TapeOk B w b
 u : Upd b W w
 s : OwnS B1 w lv ll
 o : OwnT W.heap.size w (.slice Am n cap) m
 bw : B1 ≤ w.heap.size
section
variable {W : World} {B b B1 : Nat} {Am : Option Addr} {n cap : Nat} {m : List Int} {lv : Value} {ll : List (Int × Int)} {w w' : World}
theorem Sg.upd (h : Sg W B b B1 Am n cap m lv ll w) (hb : b < W.heap.size) (hB : W.heap.size ≤ B1) (u : Upd b w w') (t : TapeOk B w' b) : Sg W B b B1 Am n cap m lv ll w' :=
 ⟨t, h.u.trans u, h.s.upd u (Nat.lt_of_lt_of_le hb hB), h.o.upd u hb, Nat.le_trans h.bw u.2.2.2.1⟩
theorem Sg.alloc (h : Sg W B b B1 Am n cap m lv ll w) (o : Obj) : Sg W B b B1 Am n cap m lv ll (w.alloc o) :=
 ⟨h.t.alloc o, h.u.trans (Ext.upd (ext_alloc w o) b), h.s.alloc o, h.o.alloc o, Nat.le_trans h.bw (by simp)⟩
theorem Sg.grow (h : Sg W B b B1 Am n cap m lv ll w) (hb : b < W.heap.size) (hB : W.heap.size ≤ B1) (hq : (Value.slice Am n cap).ownBlock = none ∨ (Value.slice Am n cap).ownBlock ≠ lv.ownBlock) {v' : Value} {l' : List (Int × Int)} (hO : OwnS B1 w' v' l') (hG : w.grownBy w' lv.ownBlock) : Sg W B b B1 Am n cap m v' l' w' :=
 ⟨h.t.below (grown_below hG (b + 1) (Nat.lt_of_lt_of_le hb h.u.2.2.2.1) (fun k hk => by have := (h.s.1.lt k hk).1; omega)), upd_grown h.u hG (fun k hk => Nat.le_trans hB (h.s.1.lt k hk).1), hO, h.o.kept hG hq, Nat.le_trans h.bw (grown_below hG 0 (Nat.zero_le _) (fun _ _ => Nat.zero_le _)).size⟩
end
set_option maxHeartbeats 6400000 in
set_option maxRecDepth 100000 in
theorem t_samples (N B b : Nat) (hN : N ≤ 1000) (W : World) (hT : TapeOk B W b) : Calls Try.prog 40 #[.pointer (some ⟨b, 0, none⟩), .int .i64 (N : Int)] W (SampsPost N B b W) := by
 have hbW := hT.2.1
 have i7 : I64 7 := ⟨by omega, by omega⟩
 have i41 : I64 41 := ⟨by omega, by omega⟩
 have i9 : I64 9 := ⟨by omega, by omega⟩
 have i3 : I64 3 := ⟨by omega, by omega⟩
 have i400 : I64 400 := ⟨by omega, by omega⟩
 have i50 : I64 50 := ⟨by omega, by omega⟩
 have KT := hide (t_times N B b hN W hT)
 clear hT
 go_enter Try.func40, Try.ntmps40
 go_upto_region 2 with (go_at_call 60; (with_reducible refine (KT.out).mono ?_); rintro e w1 ⟨Am, n, cap, m, rfl, hm, hnN, hncap, hncap2, hinc, hO, T1, u1⟩; have T1 := hide T1; have U1 := hide u1; have O1 := hide hO; have Hm := hide hm; have Hinc := hide hinc; clear hO hm hinc u1)
 have hB1 : W.heap.size ≤ w1.heap.size := U1.out.2.2.2.1
 obtain ⟨B1, hBB⟩ : ∃ B1, w1.heap.size = B1 := ⟨_, rfl⟩
 have HQ : Hid (∀ w lv ll, OwnS B1 w lv ll → (Value.slice Am n cap).ownBlock = none ∨ (Value.slice Am n cap).ownBlock ≠ lv.ownBlock) := hide (fun w lv ll ho => by
   cases Am with
   | none => exact Or.inl rfl
   | some a =>
     right
     intro e
     have h1 := O1.out.1.lt a.block rfl
     have h2 := ho.1.lt a.block (by rw [← e]; rfl)
     omega)
 have S1 : Hid (Sg W B b B1 Am n cap m (.slice none 0 0) [] w1) := hide ⟨T1.out, U1.out, OwnS.nil_ _ _, O1.out, by omega⟩
 rw [hBB] at hB1
 clear hBB T1 U1 O1 KT
 go_upto_region 4 with (go_at_call 11; (with_reducible refine (t_next B b 7 _ i7 S1.out.t).mono ?_); rintro e w2 ⟨s, rfl, hs, T2, u2⟩; obtain ⟨kd, rfl⟩ := Int.eq_ofNat_of_zero_le hs.1; have hkd : kd < 7 := (by have := hs.2.1 (by omega); omega); have S2 := hide (S1.out.upd hbW hB1 u2 T2); clear hs u2 T2 S1)
 go_upto_region 5 with (first
   | (go_at_call 25; (with_reducible refine (t_int B b _ _ S2.out.t (Upd.refl _ _)).mono ?_); rintro e w3 ⟨v0, rfl, hv0, T3, u3⟩; have S3 := hide (S2.out.upd hbW hB1 u3 T3); have Hv0 := hide hv0; clear u3 T3 S2 hv0)
   | (go_at_call 11; (with_reducible refine (t_next B b 41 _ i41 S3.out.t).mono ?_); rintro e w4 ⟨s, rfl, hs, T4, u4⟩; have hs0 := hs.1; have hs1 := hs.2.1 (by omega); have S4 := hide (S3.out.upd hbW hB1 u4 T4); obtain ⟨sl, hsl⟩ : ∃ sl, s - 20 = sl := ⟨_, rfl⟩; clear hs u4 T4 S3))
 clear hs0 hs1 hsl
 go_wp2_with fail
 go_loopw [6, 8, 10] (fun lv av iv wr => ∃ (i : Nat) (vv : Int) (ll : List (Int × Int)), i ≤ n ∧ iv = .int .i64 (i : Int) ∧ av = .int .i64 vv ∧ Hid (I64 vv) ∧ Hid (ll.map Prod.fst = m.take i) ∧ Hid (Sg W B b B1 Am n cap m lv ll wr)) (fun _ _ iv _ => n - (intOf iv).toNat)
 case atStart => exact ⟨0, v0, [], by omega, rfl, rfl, Hv0, hide (by simp), S4⟩
 case round =>
   clear S4 Hv0
   obtain ⟨i, vv, ll, hi, rfl, rfl, HV, HL, S5⟩ := hrel
   by_cases h0 : i < n
   · have d0 : decide ((i : Int) < (n : Int)) = true := decide_eq_true (by omega)
     have him : i < m.length := by rw [Hm.out]; exact h0
     obtain ⟨bm, om, rfl, _, _⟩ := (own_times S5.out.o).2.2 (by omega)
     obtain ⟨tt, htt⟩ : ∃ tt, m.getD i 0 = tt := ⟨_, rfl⟩
     have itt : I64 tt := by rw [← htt]; exact S5.out.o.2.get i
     have KC : Hid (∀ w v l', Sg W B b B1 (some ⟨bm, om, none⟩) n cap m v l' w → w.cell? ⟨bm, om + i, none⟩ = some (.int .i64 tt)) := hide (fun w v l' s => by rw [← htt]; exact (own_times s.o).cell him)
     have ix := fun w => idxT bm om n cap i h0 w
     have HL2 : Hid (∀ X, (ll ++ [(tt, X)]).map Prod.fst = m.take (i + 1)) := hide (fun X => by rw [List.map_append, HL.out, takeT_succ him, htt]; rfl)
     have hll : ll.length = i := by
       have := congrArg List.length HL.out
       rw [List.length_map, List.length_take] at this
       omega
     have hle5 : Hid (∀ X : Int, ll.length + [(tt, X)].length ≤ 8796093022208) := hide (fun X => by simp; omega)
     have iv := HV.out
     clear htt him hll HL
     obtain rfl | rfl | rfl | rfl | rfl | rfl | rfl : kd = 0 ∨ kd = 1 ∨ kd = 2 ∨ kd = 3 ∨ kd = 4 ∨ kd = 5 ∨ kd = 6 := by omega
     · go_upto_region 24 with fail
       have ivv := iv
       have Hvv := hide iv
       have S20 := hide (S5.out.alloc (.cells #[.int .i64 tt, .int .i64 vv] 79))
       have ct0 := KC.out _ _ _ S5.out
       have ct := KC.out _ _ _ S20.out
       have hone := hide (one_atS wr tt vv itt ivv)
       have hsz := S20.out.bw
       clear S5
       go_wp2_with (at_builtin; refine wl_appendS rfl (.tmp 81) (.tmp 88) rfl B1 _ ll [(tt, vv)] rfl S20.out.s _ 1 1 rfl hone.out rfl (hle5.out vv) hsz ?_; intro v21 w21 hO21 hG21 hA21; have S21 := hide (S20.out.grow hbW hB1 (HQ.out _ _ _ S20.out.s) hO21 hG21); clear hO21 hG21 hA21)
       go_roundw
       case rel => (repeat apply Exists.intro); exact ⟨⟨i + 1, vv, ll ++ [(tt, vv)], by omega, by go_num, by go_num, Hvv, HL2.out vv, S21⟩, rfl⟩
       case measure => simp [intOf]; omega
     · have Hvv := hide iv
       obtain ⟨p, p1, p2, ip⟩ := wr64 ((i : Int) * sl)
       obtain ⟨X, X1, X2, iX⟩ := wr64 (vv + p)
       go_upto_region 24 with fail
       have S20 := hide (S5.out.alloc (.cells #[.int .i64 tt, .int .i64 X] 79))
       have ct0 := KC.out _ _ _ S5.out
       have ct := KC.out _ _ _ S20.out
       have hone := hide (one_atS wr tt X itt iX)
       have hsz := S20.out.bw
       clear S5
       go_wp2_with (at_builtin; refine wl_appendS rfl (.tmp 81) (.tmp 88) rfl B1 _ ll [(tt, X)] rfl S20.out.s _ 1 1 rfl hone.out rfl (hle5.out X) hsz ?_; intro v21 w21 hO21 hG21 hA21; have S21 := hide (S20.out.grow hbW hB1 (HQ.out _ _ _ S20.out.s) hO21 hG21); clear hO21 hG21 hA21)
       go_roundw
       case rel => (repeat apply Exists.intro); exact ⟨⟨i + 1, vv, ll ++ [(tt, X)], by omega, by go_num, by go_num, Hvv, HL2.out X, S21⟩, rfl⟩
       case measure => simp [intOf]; omega
     · have Hvv := hide iv
       obtain ⟨p, p1, p2, ip⟩ := wr64 ((i : Int) * sl)
       obtain ⟨q, q1, q2, iq⟩ := wr64 (vv + p)
       go_upto_region 24 with (go_at_call 11; (with_reducible refine (t_next B b 7 _ i7 S5.out.t).mono ?_); rintro e w6 ⟨s, rfl, hs, T, u⟩; obtain ⟨y, rfl⟩ := Int.eq_ofNat_of_zero_le hs.1; have hy : y < 7 := (by have := hs.2.1 (by omega); omega); have S6 := hide (S5.out.upd hbW hB1 u T); obtain ⟨X, X1, X2, iX⟩ := wr64 (q + ((y : Int) - 3)); clear hs u T S5)
       have S20 := hide (S6.out.alloc (.cells #[.int .i64 tt, .int .i64 X] 79))
       have ct0 := KC.out _ _ _ S6.out
       have ct := KC.out _ _ _ S20.out
       have hone := hide (one_atS w6 tt X itt iX)
       have hsz := S20.out.bw
       clear S6
       go_wp2_with (at_builtin; refine wl_appendS rfl (.tmp 81) (.tmp 88) rfl B1 _ ll [(tt, X)] rfl S20.out.s _ 1 1 rfl hone.out rfl (hle5.out X) hsz ?_; intro v21 w21 hO21 hG21 hA21; have S21 := hide (S20.out.grow hbW hB1 (HQ.out _ _ _ S20.out.s) hO21 hG21); clear hO21 hG21 hA21)
       go_roundw
       case rel => (repeat apply Exists.intro); exact ⟨⟨i + 1, vv, ll ++ [(tt, X)], by omega, by go_num, by go_num, Hvv, HL2.out X, S21⟩, rfl⟩
       case measure => simp [intOf]; omega
     · have Hvv := hide iv
       go_upto_region 24 with (go_at_call 11; (with_reducible refine (t_next B b 9 _ i9 S5.out.t).mono ?_); rintro e w6 ⟨s, rfl, hs, T, u⟩; obtain ⟨y, rfl⟩ := Int.eq_ofNat_of_zero_le hs.1; have hy : y < 9 := (by have := hs.2.1 (by omega); omega); have S6 := hide (S5.out.upd hbW hB1 u T); obtain ⟨X, X1, X2, iX⟩ := wr64 (vv + ((y : Int) - 4)); clear hs u T S5)
       have S20 := hide (S6.out.alloc (.cells #[.int .i64 tt, .int .i64 X] 79))
       have ct0 := KC.out _ _ _ S6.out
       have ct := KC.out _ _ _ S20.out
       have hone := hide (one_atS w6 tt X itt iX)
       have hsz := S20.out.bw
       clear S6
       go_wp2_with (at_builtin; refine wl_appendS rfl (.tmp 81) (.tmp 88) rfl B1 _ ll [(tt, X)] rfl S20.out.s _ 1 1 rfl hone.out rfl (hle5.out X) hsz ?_; intro v21 w21 hO21 hG21 hA21; have S21 := hide (S20.out.grow hbW hB1 (HQ.out _ _ _ S20.out.s) hO21 hG21); clear hO21 hG21 hA21)
       go_roundw
       case rel => (repeat apply Exists.intro); exact ⟨⟨i + 1, vv, ll ++ [(tt, X)], by omega, by go_num, by go_num, Hvv, HL2.out X, S21⟩, rfl⟩
       case measure => simp [intOf]; omega
     · have Hvv := hide iv
       go_upto_region 24 with (go_at_call 25; (with_reducible refine (t_int B b _ _ S5.out.t (Upd.refl _ _)).mono ?_); rintro e w6 ⟨X, rfl, iX, T, u⟩; have S6 := hide (S5.out.upd hbW hB1 u T); clear u T S5)
       have S20 := hide (S6.out.alloc (.cells #[.int .i64 tt, .int .i64 X] 79))
       have ct0 := KC.out _ _ _ S6.out
       have ct := KC.out _ _ _ S20.out
       have hone := hide (one_atS w6 tt X itt iX)
       have hsz := S20.out.bw
       clear S6
       go_wp2_with (at_builtin; refine wl_appendS rfl (.tmp 81) (.tmp 88) rfl B1 _ ll [(tt, X)] rfl S20.out.s _ 1 1 rfl hone.out rfl (hle5.out X) hsz ?_; intro v21 w21 hO21 hG21 hA21; have S21 := hide (S20.out.grow hbW hB1 (HQ.out _ _ _ S20.out.s) hO21 hG21); clear hO21 hG21 hA21)
       go_roundw
       case rel => (repeat apply Exists.intro); exact ⟨⟨i + 1, vv, ll ++ [(tt, X)], by omega, by go_num, by go_num, Hvv, HL2.out X, S21⟩, rfl⟩
       case measure => simp [intOf]; omega
     · go_upto_if 62 with (go_at_call 61; (with_reducible refine (t_boolN B b 5 _ _ (by omega) (by omega) S5.out.t (Upd.refl _ _)).mono ?_); rintro e w6 ⟨v, rfl, T, u⟩; have S6 := hide (S5.out.upd hbW hB1 u T); clear u T S5)
       cases v with
       | false =>
         have Hvv := hide iv
         go_upto_region 24 with (go_at_call 11; (with_reducible refine (t_next B b 3 _ i3 S6.out.t).mono ?_); rintro e w7 ⟨s, rfl, hs, T, u⟩; obtain ⟨z, rfl⟩ := Int.eq_ofNat_of_zero_le hs.1; have hz : z < 3 := (by have := hs.2.1 (by omega); omega); have S7 := hide (S6.out.upd hbW hB1 u T); obtain ⟨X, X1, X2, iX⟩ := wr64 (vv + (z : Int)); clear hs u T S6)
         have S20 := hide (S7.out.alloc (.cells #[.int .i64 tt, .int .i64 X] 79))
         have ct0 := KC.out _ _ _ S7.out
         have ct := KC.out _ _ _ S20.out
         have hone := hide (one_atS w7 tt X itt iX)
         have hsz := S20.out.bw
         clear S7
         go_wp2_with (at_builtin; refine wl_appendS rfl (.tmp 81) (.tmp 88) rfl B1 _ ll [(tt, X)] rfl S20.out.s _ 1 1 rfl hone.out rfl (hle5.out X) hsz ?_; intro v21 w21 hO21 hG21 hA21; have S21 := hide (S20.out.grow hbW hB1 (HQ.out _ _ _ S20.out.s) hO21 hG21); clear hO21 hG21 hA21)
         go_roundw
         case rel => (repeat apply Exists.intro); exact ⟨⟨i + 1, vv, ll ++ [(tt, X)], by omega, by go_num, by go_num, Hvv, HL2.out X, S21⟩, rfl⟩
         case measure => simp [intOf]; omega
       | true =>
         go_upto_region 24 with (first | (go_at_call 11; (with_reducible refine (t_next B b 400 _ i400 S6.out.t).mono ?_); rintro e w7 ⟨s, rfl, hs, T, u⟩; obtain ⟨y, rfl⟩ := Int.eq_ofNat_of_zero_le hs.1; have hy : y < 400 := (by have := hs.2.1 (by omega); omega); have S7 := hide (S6.out.upd hbW hB1 u T); obtain ⟨V2, V1, W2, iV2⟩ := wr64 (vv + ((y : Int) - 200)); have HV2 := hide iV2; clear hs u T S6) | (go_at_call 11; (with_reducible refine (t_next B b 3 _ i3 S7.out.t).mono ?_); rintro e w8 ⟨s, rfl, hs, T, u⟩; obtain ⟨z, rfl⟩ := Int.eq_ofNat_of_zero_le hs.1; have hz : z < 3 := (by have := hs.2.1 (by omega); omega); have S8 := hide (S7.out.upd hbW hB1 u T); obtain ⟨X, X1, X2, iX⟩ := wr64 (V2 + (z : Int)); clear hs u T S7))
         have S20 := hide (S8.out.alloc (.cells #[.int .i64 tt, .int .i64 X] 79))
         have ct0 := KC.out _ _ _ S8.out
         have ct := KC.out _ _ _ S20.out
         have hone := hide (one_atS w8 tt X itt iX)
         have hsz := S20.out.bw
         clear S8
         go_wp2_with (at_builtin; refine wl_appendS rfl (.tmp 81) (.tmp 88) rfl B1 _ ll [(tt, X)] rfl S20.out.s _ 1 1 rfl hone.out rfl (hle5.out X) hsz ?_; intro v21 w21 hO21 hG21 hA21; have S21 := hide (S20.out.grow hbW hB1 (HQ.out _ _ _ S20.out.s) hO21 hG21); clear hO21 hG21 hA21)
         go_roundw
         case rel => (repeat apply Exists.intro); exact ⟨⟨i + 1, V2, ll ++ [(tt, X)], by omega, by go_num, by go_num, HV2, HL2.out X, S21⟩, rfl⟩
         case measure => simp [intOf]; omega
     · have Hvv := hide iv
       go_upto_region 24 with (first | (go_at_call 11; (with_reducible refine (t_next B b 50 _ i50 S5.out.t).mono ?_); rintro e w6 ⟨s, rfl, hs, T, u⟩; obtain ⟨y, rfl⟩ := Int.eq_ofNat_of_zero_le hs.1; have hy : y < 50 := (by have := hs.2.1 (by omega); omega); have S6 := hide (S5.out.upd hbW hB1 u T); clear hs u T S5) | (go_at_call 11; (with_reducible refine (t_next B b 50 _ i50 S6.out.t).mono ?_); rintro e w7 ⟨s, rfl, hs, T, u⟩; obtain ⟨z, rfl⟩ := Int.eq_ofNat_of_zero_le hs.1; have hz : z < 50 := (by have := hs.2.1 (by omega); omega); have S7 := hide (S6.out.upd hbW hB1 u T); obtain ⟨P, P1, P2, iP⟩ := wr64 ((y : Int) * (z : Int)); obtain ⟨X, X1, X2, iX⟩ := wr64 (P * sl); clear hs u T S6))
       have S20 := hide (S7.out.alloc (.cells #[.int .i64 tt, .int .i64 X] 79))
       have ct0 := KC.out _ _ _ S7.out
       have ct := KC.out _ _ _ S20.out
       have hone := hide (one_atS w7 tt X itt iX)
       have hsz := S20.out.bw
       clear S7
       go_wp2_with (at_builtin; refine wl_appendS rfl (.tmp 81) (.tmp 88) rfl B1 _ ll [(tt, X)] rfl S20.out.s _ 1 1 rfl hone.out rfl (hle5.out X) hsz ?_; intro v21 w21 hO21 hG21 hA21; have S21 := hide (S20.out.grow hbW hB1 (HQ.out _ _ _ S20.out.s) hO21 hG21); clear hO21 hG21 hA21)
       go_roundw
       case rel => (repeat apply Exists.intro); exact ⟨⟨i + 1, vv, ll ++ [(tt, X)], by omega, by go_num, by go_num, Hvv, HL2.out X, S21⟩, rfl⟩
       case measure => simp [intOf]; omega
   · obtain rfl : i = n := by omega
     have d0 : decide ((i : Int) < (i : Int)) = false := decide_eq_false (by omega)
     go_wp2_with fail
     go_ret
     have hL := HL.out
     rw [List.take_of_length_le (by have := Hm.out; omega)] at hL
     obtain ⟨A, c, hv, h1, h2, h3⟩ := S5.out.s.at_
     have hO := S5.out.s
     subst hv
     have hll : ll.length = i := by rw [← Hm.out, ← hL, List.length_map]
     exact ⟨A, _, c, ll, rfl, rfl, by omega, h1, h2, by rw [hL]; exact Hinc.out, hO.less hB1, S5.out.t, S5.out.u⟩
end
section
open Go Go.RowKit Go.Sort
def nearV (a b e : Int) : Bool := decide (0 ≤ e ∧ ((a - b).natAbs : Int) ≤ e)
theorem r_nearS (a b e : Int) (W : World) (ha : I64 a) (hb : I64 b) (he : I64 e) (v : Bool) (hv : nearV a b e = v) :
   Calls Try.prog 21 #[.int .i64 a, .int .i64 b, .int .i64 e] W (RetSame (.bool v) W) := by
 unfold nearV at hv
 have K := hide (fun w => r_dist a b w ha hb)
 obtain ⟨d, hd⟩ : ∃ d, (a - b).natAbs = d := ⟨_, rfl⟩
 rw [hd] at K hv
 by_cases h0 : 0 ≤ e
 · have d0 : decide ((0 : Int) ≤ e) = true := decide_eq_true h0
   have ec : IntKind.u64.wrap e = e := by rw [wrap_u64']; unfold I64 at he; omega
   have d1 : decide ((d : Int) ≤ e) = v := by rw [← hv]; simp [h0]
   have Hv := hide d1
   clear hv ha hb hd
   go_enter Try.func21, Try.ntmps21
   go_wp2_with (go_at_call 44; (with_reducible refine (K.out _).mono ?_); rintro e w3 ⟨rfl, rfl⟩)
   go_ret
   exact ⟨rfl, rfl⟩
 · have d0 : decide ((0 : Int) ≤ e) = false := decide_eq_false h0
   have ev : v = false := by rw [← hv]; simp [h0]
   subst ev
   clear hv ha hb hd K
   go_enter Try.func21, Try.ntmps21
   go_wp2_with fail
   go_ret
   exact ⟨rfl, rfl⟩
end
section
open Go Go.RowKit Go.Sort
def wCe (z : Int) : Array Value := #[.bool (sg z), .int .u64 (l0 z : Int), .int .u64 (l1 z : Int), .int .u64 (l2 z : Int), .int .u64 (l3 z : Int)]
theorem wC_onee (z : Int) : (wCe z).all (·.oneCell') = true := by kernel_rfl
theorem wC_size (z : Int) : (wCe z).size = 5 := rfl
theorem pw_ofi {x : Int} (h : I64 x) (w : World) : Calls Try.prog 68 #[.int .i64 x] w (Ret (.agg (wCe x)) w) := c_ofi h.1 h.2 w
theorem rw_ofi {x : Int} (h : I64 x) (w : World) : Calls Try.prog 13 #[.int .i64 x] w (Ret (.agg (wCe x)) w) := d_ofi h.1 h.2 w
theorem pw_add {x y z : Int} (hx : F256 x) (hy : F256 y) (e : x + y = z) (hz : F256 z) (w : World) : Calls Try.prog 73 #[.agg (wCe x), .agg (wCe y)] w (Ret (.tuple #[.agg (wCe z), .bool true]) w) := c_add hx hy e hz w
theorem rw_add {x y z : Int} (hx : F256 x) (hy : F256 y) (e : x + y = z) (hz : F256 z) (w : World) : Calls Try.prog 12 #[.agg (wCe x), .agg (wCe y)] w (Ret (.tuple #[.agg (wCe z), .bool true]) w) := d_add hx hy e hz w
theorem pw_div {x y q r : Int} (hx : F256 x) (hy : F256 y) (y0 : y ≠ 0) (e1 : x / y = q) (e2 : x % y = r) (w : World) : Calls Try.prog 76 #[.agg (wCe x), .agg (wCe y)] w (Ret (.tuple #[.agg (wCe q), .agg (wCe r), .bool true]) w) := c_div hx hy y0 e1 e2 w
theorem rw_div {x y q r : Int} (hx : F256 x) (hy : F256 y) (y0 : y ≠ 0) (e1 : x / y = q) (e2 : x % y = r) (w : World) : Calls Try.prog 22 #[.agg (wCe x), .agg (wCe y)] w (Ret (.tuple #[.agg (wCe q), .agg (wCe r), .bool true]) w) := d_div hx hy y0 e1 e2 w
theorem pw_i64 {x : Int} (hx : F256 x) (h : I64 x) (w : World) : Calls Try.prog 77 #[.agg (wCe x)] w (Ret (.tuple #[.int .i64 x, .bool true]) w) :=
 (p_int64 _ _ _ _ _ x w (isC_of hx).1).mono fun _ _ k => by rw [if_pos ⟨h.1, h.2⟩, decide_eq_true ⟨h.1, h.2⟩] at k; exact k
theorem p_near (a b e : Int) (W : World) (ha : I64 a) (hb : I64 b) (he : I64 e) (v : Bool) (hv : nearV a b e = v) :
   Calls Try.prog 71 #[.int .i64 a, .int .i64 b, .int .i64 e] W (Ret (.bool v) W) := by
 unfold nearV at hv
 have K := hide (fun w => p_dist a b w ha hb)
 obtain ⟨d, hd⟩ : ∃ d, (a - b).natAbs = d := ⟨_, rfl⟩
 rw [hd] at K hv
 by_cases h0 : 0 ≤ e
 · have d0 : decide ((0 : Int) ≤ e) = true := decide_eq_true h0
   have ec : IntKind.u64.wrap e = e := by rw [wrap_u64']; unfold I64 at he; omega
   have d1 : decide ((d : Int) ≤ e) = v := by rw [← hv]; simp [h0]
   have Hv := hide d1
   clear hv ha hb hd
   go_enter Try.func71, Try.ntmps71
   go_wp2_with (go_at_call 84; (with_reducible refine (K.out _).mono ?_); rintro e w3 ⟨rfl, rfl⟩)
   go_ret
   exact ⟨rfl, Ext.refl _⟩
 · have d0 : decide ((0 : Int) ≤ e) = false := decide_eq_false h0
   have ev : v = false := by rw [← hv]; simp [h0]
   subst ev
   clear hv ha hb hd K
   go_enter Try.func71, Try.ntmps71
   go_wp2_with fail
   go_ret
   exact ⟨rfl, Ext.refl _⟩
theorem r_near (a b e : Int) (W : World) (ha : I64 a) (hb : I64 b) (he : I64 e) (v : Bool) (hv : nearV a b e = v) :
   Calls Try.prog 21 #[.int .i64 a, .int .i64 b, .int .i64 e] W (Ret (.bool v) W) := (r_nearS a b e W ha hb he v hv).mono fun e w' h => ⟨h.1, h.2 ▸ Ext.refl _⟩
theorem pm_tol (e : Int) (W : World) (v : Bool) (hv : tolB e = v) : Calls Try.prog 26 #[.int .i64 e] W (Ret (.bool v) W) := by
 subst hv
 by_cases h0 : 0 ≤ e
 · by_cases h1 : e ≤ 4611686018427387904
   · have c0 : decide (0 ≤ e) = true := decide_eq_true h0
     have c1 : decide (e ≤ 4611686018427387904) = true := decide_eq_true h1
     unfold tolB
     rw [c0, c1]
     clear h0 h1
     go_enter Try.func26, Try.ntmps26
     go_wp2_with fail
     go_ret
     exact ⟨rfl, Ext.refl _⟩
   · have c0 : decide (0 ≤ e) = true := decide_eq_true h0
     have c1 : decide (e ≤ 4611686018427387904) = false := decide_eq_false h1
     unfold tolB
     rw [c0, c1]
     clear h0 h1
     go_enter Try.func26, Try.ntmps26
     go_wp2_with fail
     go_ret
     exact ⟨rfl, Ext.refl _⟩
 · have c0 : decide (0 ≤ e) = false := decide_eq_false h0
   unfold tolB
   rw [c0, Bool.false_and]
   clear h0
   go_enter Try.func26, Try.ntmps26
   go_wp2_with fail
   go_ret
   exact ⟨rfl, Ext.refl _⟩
structure MeX (X : Array Value) (t c lo hi : Int) (S : Array Value) : Prop where
 s : X.size = 9
 o : X.all (·.oneCell') = true
 x0 : X[0]? = some (.int .i64 t)
 x1 : X[1]? = some (.int .i64 c)
 x2 : X[2]? = some (.int .i64 lo)
 x3 : X[3]? = some (.int .i64 hi)
 x4 : X.extract 4 9 = S
theorem meX_of (t c lo hi z : Int) : MeX (meC t c lo hi z) t c lo hi (wCe z) := ⟨rfl, meC_one _ _ _ _ _, rfl, rfl, rfl, rfl, meC_sum _ _ _ _ _⟩
theorem b_me5w (t c lo hi z : Int) : Try.prog.built 27 [(0, .int .i64 t), (1, .int .i64 c), (2, .int .i64 lo), (3, .int .i64 hi), (4, .agg (wCe z))] = some (meC t c lo hi z) := b_me5 t c lo hi z
theorem f64 {x : Int} (h : I64 x) : F256 x := by unfold F256 I64 at *; omega
end
section
open Go Go.RowKit Go.Sort
attribute [local go_sem] qUpon eUpon putE slE
set_option maxHeartbeats 3200000 in
set_option maxRecDepth 100000 in
theorem p_avg (X : Array Value) (t c lo hi z : Int) (hX : MeX X t c lo hi (wCe z)) (q : Int) (hz : F256 z) (ic : I64 c) (c0 : c ≠ 0) (hq : z / c = q) (iq : I64 q) (W : World) : Calls Try.prog 67 #[.agg X] W (Ret (.int .i64 q) W) := by
 obtain ⟨r, hr⟩ : ∃ r, z % c = r := ⟨_, rfl⟩
 have k1 := hide fun w => pw_ofi ic w
 have k2 := hide fun w => pw_div hz (f64 ic) c0 hq hr w
 have k3 := hide fun w => pw_i64 (f64 iq) iq w
 clear hz ic c0 hq iq hr
 have P1 := Blk.new W 27 X
 have EE := hide (ext_alloc W (.cells X 27))
 obtain ⟨W1, hW1⟩ : ∃ W1, (W.alloc (.cells X 27)) = W1 := ⟨_, rfl⟩
 obtain ⟨g0, hg⟩ : ∃ g, W.heap.size = g := ⟨_, rfl⟩
 rw [hW1] at P1 EE
 rw [hg] at P1
 have P1_lo : W.heap.size ≤ g0 := by omega
 have HW := hide hW1
 have Hg := hide hg
 clear hW1 hg
 go_enter Try.func67, Try.ntmps67
 go_upto_region 1 with fail
 rw [HW.out, Hg.out]
 clear HW Hg
 have P1_lt := P1.lt
 refine wp_ev [.q, .q, .q, .q, .q, .q, .q, .q, .q, .q, .al, .al, .st 10, .st 11, .q] [0, 0, 0, 0, 0, 0, 0, 0, 0, 0, 0, 0, 0, 0, 0] (fun R => [.pointer (some ⟨g0, 4, none⟩), .agg (wCe z), .pointer (some ⟨g0, 1, none⟩), .int .i64 c, .agg (wCe c), .tuple #[.agg (wCe q), .agg (wCe r), .bool true], .tuple #[.agg (wCe q), .agg (wCe r), .bool true], .agg (wCe q), .agg (wCe r), .bool true, undef, undef, undef, undef, .bool true]) (fun i => match i with | 10 => (.cells z5 25 (0, 0)) | _ => (.cells z5 25 (0, 0))) (fun R i => match i with | 12 => (.cells (wCe q) 25 (0, 0)) | _ => (.cells (wCe r) 25 (0, 0))) (fun _ => 0) (XE W) (fun _ => False) (by kernel_rfl) (by kernel_rfl) (by kernel_rfl) (by kernel_rfl) rfl (fun _ => rfl) (fun _ h => h.elim) (fun _ _ h => h) (by simp) (by simp) (fun R R' => ⟨fun _ => rfl, fun _ => rfl, fun _ => rfl, fun _ => rfl, fun _ => rfl, fun _ => rfl, fun _ => rfl, fun _ => rfl, fun _ => rfl, fun _ => rfl, fun _ => rfl, fun _ => rfl, fun _ => rfl, fun _ => rfl, fun _ => rfl, trivial⟩) (fun _ _ _ _ => rfl) xe_below (EE.out.trans (ext_drew _)) ?ops15 ?end15
 case ops15 =>
   refine ⟨?_, ?_, ?_, ?_, ?_, ?_, ?_, ?_, ?_, ?_, ?_, ?_, ?_, ?_, ?_, trivial⟩
   · refine er_q ?vn1 ?hn1 ?kn1 ?gn1 ?_
     case hn1 => exact rfl
     case vn1 => exact (fun R => .pointer (some ⟨g0, 4, none⟩))
     case kn1 => exact (fun R => rfl)
     case gn1 => exact gd_none rfl
     intro R s w' hT hs hw ha
     go_simp
   · refine er_q ?vn2 ?hn2 ?kn2 ?gn2 ?_
     case hn2 => exact rfl
     case vn2 => exact (fun R => .agg (wCe z))
     case kn2 => exact (fun R => rfl)
     case gn2 => exact gd_none rfl
     intro R s w' hT hs hw ha
     have L := run_load_part (P1.sameE hw (fun h => h) (by simp)) _ _ uWide rfl 4 5 iWide (by rw [hX.s]; first | decide | omega) _ (hX.x4)
     generalize hA : putE _ _ _ _ _ _ _ = AA
     refine q_load rfl ?_ L
     subst hA
     kernel_rfl
   · refine er_q ?vn3 ?hn3 ?kn3 ?gn3 ?_
     case hn3 => exact rfl
     case vn3 => exact (fun R => .pointer (some ⟨g0, 1, none⟩))
     case kn3 => exact (fun R => rfl)
     case gn3 => exact gd_none rfl
     intro R s w' hT hs hw ha
     go_simp
   · refine er_q ?vn4 ?hn4 ?kn4 ?gn4 ?_
     case hn4 => exact rfl
     case vn4 => exact (fun R => .int .i64 c)
     case kn4 => exact (fun R => rfl)
     case gn4 => exact gd_none rfl
     intro R s w' hT hs hw ha
     have cc := ((show Blk w' g0 _ X from P1.sameE hw (fun h => h) (by simp)).cell 1).trans (hX.x1)
     go_simp
   · refine er_q ?vn5 ?hn5 ?kn5 ?gn5 ?_
     case hn5 => exact rfl
     case vn5 => exact (fun R => .agg (wCe c))
     case kn5 => exact (fun R => rfl)
     case gn5 => exact gd_none rfl
     intro R s w' hT hs hw ha
     go_simp
     exact k1.out w'
   · refine er_q ?vn6 ?hn6 ?kn6 ?gn6 ?_
     case hn6 => exact rfl
     case vn6 => exact (fun R => .tuple #[.agg (wCe q), .agg (wCe r), .bool true])
     case kn6 => exact (fun R => rfl)
     case gn6 => exact gd_none rfl
     intro R s w' hT hs hw ha
     go_simp
     exact k2.out w'
   · refine er_q ?vn7 ?hn7 ?kn7 ?gn7 ?_
     case hn7 => exact rfl
     case vn7 => exact (fun R => .tuple #[.agg (wCe q), .agg (wCe r), .bool true])
     case kn7 => exact (fun R => rfl)
     case gn7 => exact gd_none rfl
     intro R s w' hT hs hw ha
     go_simp
   · refine er_q ?vn8 ?hn8 ?kn8 ?gn8 ?_
     case hn8 => exact rfl
     case vn8 => exact (fun R => .agg (wCe q))
     case kn8 => exact (fun R => rfl)
     case gn8 => exact gd_none rfl
     intro R s w' hT hs hw ha
     go_simp
   · refine er_q ?vn9 ?hn9 ?kn9 ?gn9 ?_
     case hn9 => exact rfl
     case vn9 => exact (fun R => .agg (wCe r))
     case kn9 => exact (fun R => rfl)
     case gn9 => exact gd_none rfl
     intro R s w' hT hs hw ha
     go_simp
   · refine er_q ?vn10 ?hn10 ?kn10 ?gn10 ?_
     case hn10 => exact rfl
     case vn10 => exact (fun R => .bool true)
     case kn10 => exact (fun R => rfl)
     case gn10 => exact gd_none rfl
     intro R s w' hT hs hw ha
     go_simp
   · refine er_al ?zn11 ?hn11 ?kn11 ?gn11 ?_
     case zn11 => exact (.cells z5 25 (0, 0))
     case hn11 => exact rfl
     case kn11 => exact rfl
     case gn11 => exact gd_none rfl
     intro ρ w'
     go_simp
     exact ⟨rfl, rfl⟩
   · refine er_al ?zn12 ?hn12 ?kn12 ?gn12 ?_
     case zn12 => exact (.cells z5 25 (0, 0))
     case hn12 => exact rfl
     case kn12 => exact rfl
     case gn12 => exact gd_none rfl
     intro ρ w'
     go_simp
     exact ⟨rfl, rfl⟩
   · refine er_st (j := 10) (Ty := ?Tn13) (p := ?pn13) (x := ?xn13) ?fn13 ?zn13 ?vn13 ?hn13 ?on13 ?kn13 ?ln13 ?gn13 ?en13 ?_
     case hn13 => exact rfl
     case on13 => exact rfl
     case fn13 => exact (fun R => (.cells (wCe q) 25 (0, 0)))
     case zn13 => exact (.cells z5 25 (0, 0))
     case vn13 => exact (fun R => .agg (wCe q))
     case kn13 => exact (fun R => rfl)
     case ln13 => exact rfl
     case gn13 => exact gd_none rfl
     case en13 =>
       intro R
       kernel_rfl
     intro R s ρ w g hT hs hp hx hg hz
     exact ⟨store_row rfl hp hx hz iWide ((wC_size q)) ((wC_onee q)), fun w1 hF => ext_filled hT hF (Nat.le_trans EE.out.size hg)⟩
   · refine er_st (j := 11) (Ty := ?Tn14) (p := ?pn14) (x := ?xn14) ?fn14 ?zn14 ?vn14 ?hn14 ?on14 ?kn14 ?ln14 ?gn14 ?en14 ?_
     case hn14 => exact rfl
     case on14 => exact rfl
     case fn14 => exact (fun R => (.cells (wCe r) 25 (0, 0)))
     case zn14 => exact (.cells z5 25 (0, 0))
     case vn14 => exact (fun R => .agg (wCe r))
     case kn14 => exact (fun R => rfl)
     case ln14 => exact rfl
     case gn14 => exact gd_none rfl
     case en14 =>
       intro R
       kernel_rfl
     intro R s ρ w g hT hs hp hx hg hz
     exact ⟨store_row rfl hp hx hz iWide ((wC_size r)) ((wC_onee r)), fun w1 hF => ext_filled hT hF (Nat.le_trans EE.out.size hg)⟩
   · refine er_q ?vn15 ?hn15 ?kn15 ?gn15 ?_
     case hn15 => exact rfl
     case vn15 => exact (fun R => .bool true)
     case kn15 => exact (fun R => rfl)
     case gn15 => exact gd_none rfl
     intro R s w' hT hs hw ha
     go_simp
 case end15 =>
  intro sI R G w16 hI
  have hS := hI.same
  have hTT := hI.holds
  have hz0 := EE.out.size
  replace P1 := P1.sameE hS (fun h => h) (by simp)
  have P3 : Blk w16 (G 10) 25 (wCe q) := (hI.fulls 12 (List.mem_range.2 (show 12 < 15 by decide)) 10 rfl).2.2
  have hmP3 := (hI.made 10 (List.mem_range.2 (show 10 < 15 by decide)) rfl).1
  have P3_lo : W.heap.size ≤ G 10 := Nat.le_trans hz0 hmP3
  have P4 : Blk w16 (G 11) 25 (wCe r) := (hI.fulls 13 (List.mem_range.2 (show 13 < 15 by decide)) 11 rfl).2.2
  have hmP4 := (hI.made 11 (List.mem_range.2 (show 11 < 15 by decide)) rfl).1
  have P4_lo : W.heap.size ≤ G 11 := Nat.le_trans hz0 hmP4
  have ng3_4 : G 10 ≠ G 11 := fun e => by have := hI.apart 10 (List.mem_range.2 (show 10 < 15 by decide)) 11 (List.mem_range.2 (show 11 < 15 by decide)) rfl rfl e; omega
  have ngP1_3 : g0 ≠ G 10 := by omega
  have ngP1_4 : g0 ≠ G 11 := by omega
  replace EE := hide (show Ext _ _ from hTT)
  clear hS hz0 hTT hI P1_lt
  generalize hF : putE _ _ _ _ _ _ _ = FF
  have hF2 : FF = { tmps := #[.agg X, .pointer (some ⟨g0, 0, none⟩), .int .i64 0, .pointer (some ⟨G 10, 0, none⟩), .pointer (some ⟨G 11, 0, none⟩), .bool true, undef, undef, .tuple #[.agg (wCe q), .agg (wCe r), .bool true], .pointer (some ⟨g0, 4, none⟩), .agg (wCe z), .pointer (some ⟨g0, 1, none⟩), .int .i64 c, .agg (wCe c), .tuple #[.agg (wCe q), .agg (wCe r), .bool true], .agg (wCe q), .agg (wCe r), .bool true, undef, undef, undef, undef, undef, undef], defers := [] } := by subst hF; kernel_rfl
  clear hF
  subst hF2
  generalize G 10 = g3 at *
  generalize G 11 = g4 at *
  go_upto_region 2 with fail
  refine wp_region_reads ?_
  repeat (first | go_big_quiet_step (first | with_reducible exact quiet_ret (k3.out _)) | (refine wq_load (by kernel_rfl) rfl rfl (fun w hw => by obtain ⟨⟨d, os⟩, rfl⟩ := hw; exact ld_all ((P3).ext (ext_regrown w16 d os)) uWide rfl iWide (wC_size q)) ?_) | quiet_step (first | with_reducible exact quiet_ret (k3.out _)))
  refine wpQuiet_nil ?_
  intro _ hw'
  obtain ⟨⟨dq, osq⟩, hw''⟩ := hw'
  subst hw''
  replace P1 := (P1).ext (ext_regrown w16 dq osq)
  replace P3 := (P3).ext (ext_regrown w16 dq osq)
  replace P4 := (P4).ext (ext_regrown w16 dq osq)
  replace EE := hide (EE.out.trans (ext_regrown w16 dq osq))
  obtain ⟨w18, hzq17⟩ : ∃ w, grow (redrawn w16 dq) osq = w := ⟨_, rfl⟩
  rw [hzq17] at EE P1 P3 P4 ⊢
  clear hzq17
  go_wp2_with fail
  go_ret
  exact ⟨rfl, EE.out⟩
set_option maxHeartbeats 3200000 in
set_option maxRecDepth 100000 in
theorem p_neaN (X : Array Value) (t c lo hi z : Int) (hX : MeX X t c lo hi (wCe z)) (q : Int) (b : Bool) (k1 : Hid (∀ w, Calls Try.prog 67 #[.agg X] w (Ret (.int .i64 q) w))) (k2 : Hid (∀ w, Calls Try.prog 71 #[.int .i64 q, .int .i64 lo, .int .i64 t] w (Ret (.bool false) w))) (k3 : Hid (∀ w, Calls Try.prog 71 #[.int .i64 q, .int .i64 hi, .int .i64 t] w (Ret (.bool b) w))) (W : World) : Calls Try.prog 57 #[.agg X] W (Ret (.bool false) W) := by
 have P1 := Blk.new W 27 X
 have EE := hide (ext_alloc W (.cells X 27))
 obtain ⟨W1, hW1⟩ : ∃ W1, (W.alloc (.cells X 27)) = W1 := ⟨_, rfl⟩
 obtain ⟨g0, hg⟩ : ∃ g, W.heap.size = g := ⟨_, rfl⟩
 rw [hW1] at P1 EE
 rw [hg] at P1
 have P1_lo : W.heap.size ≤ g0 := by omega
 have HW := hide hW1
 have Hg := hide hg
 clear hW1 hg
 go_enter Try.func57, Try.ntmps57
 go_upto_region 1 with fail
 rw [HW.out, Hg.out]
 clear HW Hg
 refine wp_region_reads ?_
 repeat (first | go_big_quiet_step (first | with_reducible exact quiet_ret (k1.out _)) | (refine wq_load (by kernel_rfl) rfl rfl (fun w hw => by obtain ⟨⟨d, os⟩, rfl⟩ := hw; exact ld_all ((P1).ext (ext_regrown W1 d os)) uMean rfl iMean hX.s) ?_) | quiet_step (first | with_reducible exact quiet_ret (k1.out _)))
 refine wpQuiet_nil ?_
 intro _ hw'
 obtain ⟨⟨dq, osq⟩, hw''⟩ := hw'
 subst hw''
 replace P1 := (P1).ext (ext_regrown W1 dq osq)
 replace EE := hide (EE.out.trans (ext_regrown W1 dq osq))
 obtain ⟨w2, hzq1⟩ : ∃ w, grow (redrawn W1 dq) osq = w := ⟨_, rfl⟩
 rw [hzq1] at EE P1 ⊢
 clear hzq1
 go_upto_region 2 with fail
 have cq3_0 := fun d os => (((P1).ext (ext_regrown w2 d os)).cell 2).trans (hX.x2)
 have cq3_1 := fun d os => (((P1).ext (ext_regrown w2 d os)).cell 0).trans (hX.x0)
 refine wp_region_reads ?_
 repeat (first | go_big_quiet_step (first | with_reducible exact quiet_ret (k2.out _)) | quiet_step (first | with_reducible exact quiet_ret (k2.out _)))
 refine wpQuiet_nil ?_
 intro _ hw'
 obtain ⟨⟨dq, osq⟩, hw''⟩ := hw'
 subst hw''
 replace P1 := (P1).ext (ext_regrown w2 dq osq)
 replace EE := hide (EE.out.trans (ext_regrown w2 dq osq))
 obtain ⟨w4, hzq3⟩ : ∃ w, grow (redrawn w2 dq) osq = w := ⟨_, rfl⟩
 rw [hzq3] at EE P1 ⊢
 clear hzq3 cq3_0 cq3_1
 go_wp2_with fail
 go_ret
 exact ⟨rfl, EE.out⟩
set_option maxHeartbeats 3200000 in
set_option maxRecDepth 100000 in
theorem p_neaY (X : Array Value) (t c lo hi z : Int) (hX : MeX X t c lo hi (wCe z)) (q : Int) (b : Bool) (k1 : Hid (∀ w, Calls Try.prog 67 #[.agg X] w (Ret (.int .i64 q) w))) (k2 : Hid (∀ w, Calls Try.prog 71 #[.int .i64 q, .int .i64 lo, .int .i64 t] w (Ret (.bool true) w))) (k3 : Hid (∀ w, Calls Try.prog 71 #[.int .i64 q, .int .i64 hi, .int .i64 t] w (Ret (.bool b) w))) (W : World) : Calls Try.prog 57 #[.agg X] W (Ret (.bool b) W) := by
 have P1 := Blk.new W 27 X
 have EE := hide (ext_alloc W (.cells X 27))
 obtain ⟨W1, hW1⟩ : ∃ W1, (W.alloc (.cells X 27)) = W1 := ⟨_, rfl⟩
 obtain ⟨g0, hg⟩ : ∃ g, W.heap.size = g := ⟨_, rfl⟩
 rw [hW1] at P1 EE
 rw [hg] at P1
 have P1_lo : W.heap.size ≤ g0 := by omega
 have HW := hide hW1
 have Hg := hide hg
 clear hW1 hg
 go_enter Try.func57, Try.ntmps57
 go_upto_region 1 with fail
 rw [HW.out, Hg.out]
 clear HW Hg
 refine wp_region_reads ?_
 repeat (first | go_big_quiet_step (first | with_reducible exact quiet_ret (k1.out _)) | (refine wq_load (by kernel_rfl) rfl rfl (fun w hw => by obtain ⟨⟨d, os⟩, rfl⟩ := hw; exact ld_all ((P1).ext (ext_regrown W1 d os)) uMean rfl iMean hX.s) ?_) | quiet_step (first | with_reducible exact quiet_ret (k1.out _)))
 refine wpQuiet_nil ?_
 intro _ hw'
 obtain ⟨⟨dq, osq⟩, hw''⟩ := hw'
 subst hw''
 replace P1 := (P1).ext (ext_regrown W1 dq osq)
 replace EE := hide (EE.out.trans (ext_regrown W1 dq osq))
 obtain ⟨w2, hzq1⟩ : ∃ w, grow (redrawn W1 dq) osq = w := ⟨_, rfl⟩
 rw [hzq1] at EE P1 ⊢
 clear hzq1
 go_upto_region 2 with fail
 have cq3_0 := fun d os => (((P1).ext (ext_regrown w2 d os)).cell 2).trans (hX.x2)
 have cq3_1 := fun d os => (((P1).ext (ext_regrown w2 d os)).cell 0).trans (hX.x0)
 have cq3_2 := fun d os => (((P1).ext (ext_regrown w2 d os)).cell 3).trans (hX.x3)
 refine wp_region_reads ?_
 repeat (first | go_big_quiet_step (first | with_reducible exact quiet_ret (k2.out _) | with_reducible exact quiet_ret (k3.out _)) | quiet_step (first | with_reducible exact quiet_ret (k2.out _) | with_reducible exact quiet_ret (k3.out _)))
 refine wpQuiet_nil ?_
 intro _ hw'
 obtain ⟨⟨dq, osq⟩, hw''⟩ := hw'
 subst hw''
 replace P1 := (P1).ext (ext_regrown w2 dq osq)
 replace EE := hide (EE.out.trans (ext_regrown w2 dq osq))
 obtain ⟨w4, hzq3⟩ : ∃ w, grow (redrawn w2 dq) osq = w := ⟨_, rfl⟩
 rw [hzq3] at EE P1 ⊢
 clear hzq3 cq3_0 cq3_1 cq3_2
 go_wp2_with fail
 go_ret
 exact ⟨rfl, EE.out⟩
end
section
open Go Go.RowKit Go.Sort
attribute [local go_sem] qUpon eUpon putE slE
set_option maxHeartbeats 3200000 in
set_option maxRecDepth 100000 in
theorem p_beginN (X S : Array Value) (t c lo hi v : Int) (hX : MeX X t c lo hi S) (iv : I64 v) (W : World) : Calls Try.prog 55 #[.agg X, .int .i64 v] W (Ret (.agg (meC t 1 v v v)) W) := by
 have k1 := hide fun w => pw_ofi iv w
 clear iv
 have P2 := (Blk.new W 27 X).alloc (.cells z9m 27)
 have P4 := Blk.new (W.alloc (.cells X 27)) 27 z9m
 rw [alloc_size] at P4
 have EE := hide ((ext_alloc W (.cells X 27)).trans (ext_alloc _ (.cells z9m 27)))
 obtain ⟨W1, hW1⟩ : ∃ W1, ((W.alloc (.cells X 27)).alloc (.cells z9m 27)) = W1 := ⟨_, rfl⟩
 obtain ⟨g0, hg⟩ : ∃ g, W.heap.size = g := ⟨_, rfl⟩
 rw [hW1] at P2 P4 EE
 rw [hg] at P2 P4
 have P2_lo : W.heap.size ≤ g0 := by omega
 have P4_lo : W.heap.size ≤ g0 + 1 := by omega
 have HW := hide hW1
 have Hg := hide hg
 clear hW1 hg
 go_enter Try.func55, Try.ntmps55
 go_upto_region 1 with fail
 unfold z9m at HW
 rw [HW.out, Hg.out]
 clear HW Hg
 have P2_lt := P2.lt
 have P4_lt := P4.lt
 refine wp_ev [.q, .q, .q, .q, .q, .q, .q, .so 0] [0, 0, 0, 0, 0, 0, 0, 0] (fun R => [.pointer (some ⟨g0, 0, none⟩), .int .i64 t, .int .i64 v, .int .i64 v, .int .i64 v, .agg (wCe v), .agg (meC t 1 v v v), undef]) (fun _ => (.cells #[] 0 (0, 0))) (fun R _ => (.cells (meC t 1 v v v) 27 (0, 0))) (fun _ => g0 + 1) (XE W) (fun _ => False) (by kernel_rfl) (by kernel_rfl) (by kernel_rfl) (by kernel_rfl) rfl (fun _ => rfl) (fun _ h => h.elim) (fun _ _ h => h) (by intro c hc; simp at hc; (try subst hc); (try simp only); omega) (by intro c c' h1 h2 _; simp at h1 h2; omega) (fun R R' => ⟨fun _ => rfl, fun _ => rfl, fun _ => rfl, fun _ => rfl, fun _ => rfl, fun _ => rfl, fun _ => rfl, fun _ => rfl, trivial⟩) (fun _ _ _ _ => rfl) xe_below (EE.out.trans (ext_drew _)) ?ops8 ?end8
 case ops8 =>
   refine ⟨?_, ?_, ?_, ?_, ?_, ?_, ?_, ?_, trivial⟩
   · refine er_q ?vn1 ?hn1 ?kn1 ?gn1 ?_
     case hn1 => exact rfl
     case vn1 => exact (fun R => .pointer (some ⟨g0, 0, none⟩))
     case kn1 => exact (fun R => rfl)
     case gn1 => exact gd_none rfl
     intro R s w' hT hs hw ha
     go_simp
   · refine er_q ?vn2 ?hn2 ?kn2 ?gn2 ?_
     case hn2 => exact rfl
     case vn2 => exact (fun R => .int .i64 t)
     case kn2 => exact (fun R => rfl)
     case gn2 => exact gd_none rfl
     intro R s w' hT hs hw ha
     have cc := ((show Blk w' g0 _ X from P2.sameE hw (fun h => h) (by intro c hc; simp at hc; (try subst hc); (try simp only); omega)).cell 0).trans (hX.x0)
     go_simp
   · refine er_q ?vn3 ?hn3 ?kn3 ?gn3 ?_
     case hn3 => exact rfl
     case vn3 => exact (fun R => .int .i64 v)
     case kn3 => exact (fun R => rfl)
     case gn3 => exact gd_none rfl
     intro R s w' hT hs hw ha
     go_simp
   · refine er_q ?vn4 ?hn4 ?kn4 ?gn4 ?_
     case hn4 => exact rfl
     case vn4 => exact (fun R => .int .i64 v)
     case kn4 => exact (fun R => rfl)
     case gn4 => exact gd_none rfl
     intro R s w' hT hs hw ha
     go_simp
   · refine er_q ?vn5 ?hn5 ?kn5 ?gn5 ?_
     case hn5 => exact rfl
     case vn5 => exact (fun R => .int .i64 v)
     case kn5 => exact (fun R => rfl)
     case gn5 => exact gd_none rfl
     intro R s w' hT hs hw ha
     go_simp
   · refine er_q ?vn6 ?hn6 ?kn6 ?gn6 ?_
     case hn6 => exact rfl
     case vn6 => exact (fun R => .agg (wCe v))
     case kn6 => exact (fun R => rfl)
     case gn6 => exact gd_none rfl
     intro R s w' hT hs hw ha
     go_simp
     exact k1.out w'
   · refine er_q ?vn7 ?hn7 ?kn7 ?gn7 ?_
     case hn7 => exact rfl
     case vn7 => exact (fun R => .agg (meC t 1 v v v))
     case kn7 => exact (fun R => rfl)
     case gn7 => exact gd_none rfl
     intro R s w' hT hs hw ha
     generalize hA : putE _ _ _ _ _ _ _ = AA
     refine q_buildM (vs := #[(0, .int .i64 t), (1, .int .i64 1), (2, .int .i64 v), (3, .int .i64 v), (4, .agg (wCe v))]) rfl ?_ (b_me5w t 1 v v v)
     subst hA
     kernel_rfl
   · refine er_so (c := 0) (Ty := ?Tn8) (p := ?pn8) (x := ?xn8) (g0 + 1) ?fn8 ?un8 ?vn8 ?hn8 ?on8 ?kn8 ?ln8 ?gn8 ?dn8 ?en8 ?_
     case hn8 => exact rfl
     case on8 => exact rfl
     case fn8 => exact (fun R => (.cells (meC t 1 v v v) 27 (0, 0)))
     case un8 => exact (fun R => .pointer (some ⟨g0 + 1, 0, none⟩))
     case vn8 => exact (fun R => .agg (meC t 1 v v v))
     case kn8 => exact (fun R => rfl)
     case ln8 => exact rfl
     case gn8 => exact gd_none rfl
     case dn8 =>
       intro R
       kernel_rfl
     case en8 =>
       intro R
       kernel_rfl
     intro R s ρ w hT hs hp hx hz
     refine ⟨store_rowN (g := (g0 + 1)) rfl hp hx (hz.trans P4) iMean (rfl) ((meX_of t 1 v v v).s) ((meX_of t 1 v v v).o), fun w1 hF => ext_filled hT hF P4_lo⟩
 case end8 =>
  intro sI R G w9 hI
  have hS := hI.same
  have hTT := hI.holds
  have hz0 := EE.out.size
  replace P2 := P2.sameE hS (fun h => h) (by intro c hc; simp at hc; (try subst hc); (try simp only); omega)
  replace P4 : Blk w9 (g0 + 1) 27 (meC t 1 v v v) := hI.olds' 7 (List.mem_range.2 (show 7 < 8 by decide)) 0 rfl
  replace EE := hide (show Ext _ _ from hTT)
  clear hS hz0 hTT hI P2_lt P4_lt
  generalize hF : putE _ _ _ _ _ _ _ = FF
  have hF2 : FF = { tmps := #[.agg X, .int .i64 v, .pointer (some ⟨g0, 0, none⟩), undef, .pointer (some ⟨g0 + 1, 0, none⟩), .pointer (some ⟨g0, 0, none⟩), .int .i64 t, .int .i64 v, .int .i64 v, .int .i64 v, .agg (wCe v), .agg (meC t 1 v v v)], defers := [] } := by subst hF; kernel_rfl
  clear hF
  subst hF2
  go_wp2_with fail
  exact bodyPost_ret (results_cell_row (p := 4) (ty := 27) rfl _ _ _ 27 (meC t 1 v v v) (0, 0) _ rfl P4 uMean rfl iMean) rfl ⟨rfl, EE.out⟩
end
section
abbrev Ms := Nat × Int × Int
def SegsM (eps : Int) : List Int → List Ms → Prop
 | [], [] => True
 | x :: l, (n, lo, hi) :: ls => 1 ≤ n ∧ n ≤ l.length + 1 ∧ hi - lo ≤ 2 * eps ∧ (∀ v ∈ (x :: l).take n, lo ≤ v ∧ v ≤ hi) ∧ lo ∈ (x :: l).take n ∧ hi ∈ (x :: l).take n ∧ (∀ y, (x :: l)[n]? = some y → 2 * eps < max hi y - min lo y) ∧ SegsM eps ((x :: l).drop n) ls
 | _, _ => False
end
section
def RunM (l : List Int) (j i : Nat) (lo hi : Int) : Prop := (∀ v ∈ (l.take i).drop j, lo ≤ v ∧ v ≤ hi) ∧ lo ∈ (l.take i).drop j ∧ hi ∈ (l.take i).drop j
def SegB (eps : Int) (l : List Int) (ls : List Ms) (k a : Nat) : Prop := a ≤ l.length ∧ k ≤ ls.length ∧ SegsM eps (l.drop a) (ls.drop k)
theorem SegB.next {eps : Int} {l : List Int} {ls : List Ms} {k a : Nat} (h : SegB eps l ls k a) (hk : k < ls.length) :
   ∃ (n : Nat) (lo hi : Int), ls[k]? = some (n, lo, hi) ∧ 1 ≤ n ∧ a + n ≤ l.length ∧ hi - lo ≤ 2 * eps ∧ RunM l a (a + n) lo hi ∧ (∀ y, l[a + n]? = some y → 2 * eps < max hi y - min lo y) ∧ SegB eps l ls (k + 1) (a + n) := by
 obtain ⟨h1, h2, h3⟩ := h
 obtain ⟨q, hq⟩ : ∃ q, ls[k]? = some q := ⟨ls[k], by simp [hk]⟩
 obtain ⟨n, lo, hi⟩ := q
 have e1 : ls.drop k = (n, lo, hi) :: ls.drop (k + 1) := by
   rw [List.drop_eq_getElem_cons hk]
   rw [List.getElem?_eq_getElem hk] at hq
   rw [Option.some.inj hq]
 rw [e1] at h3
 cases hd : l.drop a with
 | nil => rw [hd] at h3; exact absurd h3 (by simp [SegsM])
 | cons x r =>
   rw [hd] at h3
   have hl : r.length + 1 = l.length - a := by have := congrArg List.length hd; rw [List.length_drop] at this; simp only [List.length_cons] at this; omega
   simp only [SegsM] at h3
   obtain ⟨g1, g2, g3, g4, g5, g6, g7, g8⟩ := h3
   rw [← hd] at g4 g5 g6 g7 g8
   have et : (l.drop a).take n = (l.take (a + n)).drop a := by rw [List.take_drop, Nat.add_comm]
   rw [et] at g4 g5 g6
   refine ⟨n, lo, hi, hq, g1, by omega, g3, ⟨g4, g5, g6⟩, fun y hy => g7 y (by rw [List.getElem?_drop]; exact hy), by omega, by omega, ?_⟩
   rw [List.drop_drop] at g8
   exact g8
theorem SegB.end_ {eps : Int} {l : List Int} {ls : List Ms} {k a : Nat} (h : SegB eps l ls k a) (hk : k = ls.length) : a = l.length := by
 obtain ⟨h1, h2, h3⟩ := h
 rw [hk, List.drop_length] at h3
 cases hd : l.drop a with
 | nil => have := List.drop_eq_nil_iff.1 hd; omega
 | cons x r => rw [hd] at h3; exact absurd h3 (by simp [SegsM])
end
section
abbrev Mn := Nat × Int × Int × Int
def FitN (eps : Int) (s : Mn) : Prop := s.2.2.2 / (s.1 : Int) - s.2.1 ≤ eps ∧ s.2.2.1 - s.2.2.2 / (s.1 : Int) ≤ eps
instance (eps : Int) (s : Mn) : Decidable (FitN eps s) := by unfold FitN; infer_instance
def moreN (s : Mn) (v : Int) : Mn := (s.1 + 1, min s.2.1 v, max s.2.2.1 v, s.2.2.2 + v)
def oneN (v : Int) : Mn := (1, v, v, v)
def stepN (eps : Int) : Option Mn → Int → Option Mn × List Mn
 | none, v => (some (oneN v), [])
 | some s, v => if FitN eps (moreN s v) then (some (moreN s v), []) else (some (oneN v), [s])
def stateN (eps : Int) (s : Option Mn) (l : List Int) : Option Mn := l.foldl (fun s v => (stepN eps s v).1) s
def doneN (eps : Int) : Option Mn → List Int → List Mn
 | _, [] => []
 | s, v :: l => (stepN eps s v).2 ++ doneN eps (stepN eps s v).1 l
def endN : Option Mn → List Mn
 | none => []
 | some s => [s]
def allN (eps : Int) (l : List Int) : List Mn := doneN eps none l ++ endN (stateN eps none l)
theorem stateN_app (eps : Int) (s : Option Mn) (l m : List Int) : stateN eps s (l ++ m) = stateN eps (stateN eps s l) m := by simp [stateN, List.foldl_append]
theorem doneN_app (eps : Int) : ∀ (l m : List Int) (s : Option Mn), doneN eps s (l ++ m) = doneN eps s l ++ doneN eps (stateN eps s l) m
 | [], m, s => by simp [doneN, stateN]
 | v :: l, m, s => by
   simp only [List.cons_append, doneN, doneN_app eps l m, List.append_assoc]
   rfl
theorem fit_one {eps : Int} (he : 0 ≤ eps) (v : Int) : FitN eps (oneN v) := by
 unfold FitN oneN
 simp only [Int.natCast_one, Int.ediv_one]
 omega
def IsN (p : List Int) (s : Mn) : Prop := p.length = s.1 ∧ 1 ≤ s.1 ∧ (∀ v ∈ p, s.2.1 ≤ v ∧ v ≤ s.2.2.1) ∧ s.2.1 ∈ p ∧ s.2.2.1 ∈ p ∧ p.sum = s.2.2.2
theorem isN_one (v : Int) : IsN [v] (oneN v) := ⟨rfl, Nat.le_refl _, fun w hw => by simp only [List.mem_singleton] at hw; subst hw; exact ⟨Int.le_refl _, Int.le_refl _⟩, by simp [oneN], by simp [oneN], by simp [oneN]⟩
theorem isN_more {p : List Int} {s : Mn} (h : IsN p s) (v : Int) : IsN (p ++ [v]) (moreN s v) := by
 obtain ⟨n, lo, hi, sm⟩ := s
 obtain ⟨h1, h2, h3, h4, h5, h6⟩ := h
 simp only [moreN] at *
 refine ⟨by simp [h1], by simp only; omega, fun w hw => ?_, ?_, ?_, by simp [h6]⟩
 · rw [List.mem_append, List.mem_singleton] at hw
   simp only
   rcases hw with hw | rfl
   · have := h3 w hw; omega
   · omega
 · rw [List.mem_append, List.mem_singleton]
   simp only
   rcases Int.le_total lo v with h | h
   · exact Or.inl (by rw [show min lo v = lo by omega]; exact h4)
   · exact Or.inr (by omega)
 · rw [List.mem_append, List.mem_singleton]
   simp only
   rcases Int.le_total hi v with h | h
   · exact Or.inr (by omega)
   · exact Or.inl (by rw [show max hi v = hi by omega]; exact h5)
theorem sum_ge {lo : Int} : ∀ {p : List Int}, (∀ v ∈ p, lo ≤ v) → (p.length : Int) * lo ≤ p.sum
 | [], _ => by simp
 | v :: p, h => by
   have h1 := h v (by simp)
   have h2 := sum_ge (p := p) fun w hw => h w (by simp [hw])
   simp only [List.length_cons, List.sum_cons, Int.natCast_add, Int.natCast_one, Int.add_mul, Int.one_mul]
   omega
theorem sum_le {hi : Int} : ∀ {p : List Int}, (∀ v ∈ p, v ≤ hi) → p.sum ≤ (p.length : Int) * hi
 | [], _ => by simp
 | v :: p, h => by
   have h1 := h v (by simp)
   have h2 := sum_le (p := p) fun w hw => h w (by simp [hw])
   simp only [List.length_cons, List.sum_cons, Int.natCast_add, Int.natCast_one, Int.add_mul, Int.one_mul]
   omega
def SegsN (eps : Int) : List Int → List Mn → Prop
 | [], [] => True
 | x :: l, s :: ls => s.1 ≤ l.length + 1 ∧ IsN ((x :: l).take s.1) s ∧ FitN eps s ∧ (∀ y, (x :: l)[s.1]? = some y → ¬ FitN eps (moreN s y)) ∧ SegsN eps ((x :: l).drop s.1) ls
 | _, _ => False
theorem runN_segs {eps : Int} (he : 0 ≤ eps) : ∀ (l p : List Int) (s : Mn), IsN p s → FitN eps s → SegsN eps (p ++ l) (doneN eps (some s) l ++ endN (stateN eps (some s) l))
 | [], p, s, hs, hf => by
   have h1 := hs.1
   have h2 := hs.2.1
   cases p with
   | nil => simp at h1; omega
   | cons x p =>
     have hn' : p.length + 1 = s.1 := by simpa using h1
     have ht : (x :: p).take s.1 = x :: p := List.take_of_length_le (by simp; omega)
     have hd : (x :: p).drop s.1 = [] := List.drop_of_length_le (by simp; omega)
     simp only [doneN, stateN, List.foldl_nil, endN, List.append_nil, List.nil_append, SegsN, ht, hd]
     exact ⟨by omega, hs, hf, fun y hy => (by rw [List.getElem?_eq_none (by simp; omega)] at hy; cases hy), trivial⟩
 | v :: l, p, s, hs, hf => by
   by_cases hg : FitN eps (moreN s v)
   · have e : p ++ v :: l = (p ++ [v]) ++ l := by simp
     simp only [doneN, stateN, List.foldl_cons, stepN, if_pos hg, List.nil_append]
     rw [e]
     exact runN_segs he l (p ++ [v]) (moreN s v) (isN_more hs v) hg
   · have h1 := hs.1
     have h2 := hs.2.1
     cases p with
     | nil => simp at h1; omega
     | cons x p =>
       have hn' : p.length + 1 = s.1 := by simpa using h1
       have ht : (x :: p ++ v :: l).take s.1 = x :: p := by rw [List.take_append_of_le_length (by simp; omega)]; exact List.take_of_length_le (by simp; omega)
       have hd : (x :: p ++ v :: l).drop s.1 = v :: l := by rw [← h1]; simp
       have hgt : (x :: p ++ v :: l)[s.1]? = some v := by rw [List.getElem?_append_right (by simp; omega)]; simp [hn']
       have ih := runN_segs he l [v] (oneN v) (isN_one v) (fit_one he v)
       simp only [doneN, stateN, List.foldl_cons, stepN, if_neg hg]
       rw [List.cons_append] at ht hd hgt ⊢
       simp only [List.singleton_append, List.cons_append, List.nil_append, SegsN, ht, hd]
       exact ⟨by simp; omega, hs, hf, fun y hy => (by rw [hgt] at hy; cases hy; exact hg), ih⟩
theorem allN_segs {eps : Int} (he : 0 ≤ eps) (l : List Int) : SegsN eps l (allN eps l) := by
 cases l with
 | nil => simp [allN, doneN, stateN, endN, SegsN]
 | cons v l =>
   have := runN_segs he l [v] (oneN v) (isN_one v) (fit_one he v)
   simpa [allN, doneN, stateN, stepN] using this
end
section
theorem take_snoc {α : Type} {l : List α} {j : Nat} {v : α} (hv : l[j]? = some v) : l.take (j + 1) = l.take j ++ [v] := by rw [List.take_add_one, hv]; rfl
def OkN (eps : Int) : Option Mn → Prop
 | none => True
 | some s => s.1 ≤ 1073741824 ∧ (∃ p, IsN p s ∧ ∀ v ∈ p, I64 v) ∧ FitN eps s
def cntN : Option Mn → Nat
 | none => 0
 | some s => s.1
theorem step_okN {eps : Int} (he : Tol eps) {s : Option Mn} {v : Int} (h : OkN eps s) (hv : I64 v) (hc : cntN s < 1073741824) : OkN eps (stepN eps s v).1 ∧ cntN (stepN eps s v).1 ≤ cntN s + 1 := by
 have one : OkN eps (some (oneN v)) := ⟨by simp [oneN], ⟨[v], isN_one v, fun w hw => by simp only [List.mem_singleton] at hw; subst hw; exact hv⟩, fit_one he.1 v⟩
 cases s with
 | none => exact ⟨one, Nat.le_refl _⟩
 | some s =>
   obtain ⟨h1, ⟨p, hp, hi⟩, h3⟩ := h
   simp only [cntN] at hc
   simp only [stepN]
   by_cases hf : FitN eps (moreN s v)
   · rw [if_pos hf]
     refine ⟨⟨by simp only [moreN]; omega, ⟨p ++ [v], isN_more hp v, fun w hw => ?_⟩, hf⟩, Nat.le_refl _⟩
     rw [List.mem_append, List.mem_singleton] at hw
     rcases hw with hw | rfl
     · exact hi w hw
     · exact hv
   · rw [if_neg hf]
     exact ⟨one, by simp [cntN, oneN]⟩
theorem state_atN {eps : Int} (he : Tol eps) {l : List Int} (ho : ∀ v ∈ l, I64 v) (hn : l.length ≤ 1073741824) : ∀ j, j ≤ l.length → OkN eps (stateN eps none (l.take j)) ∧ cntN (stateN eps none (l.take j)) ≤ j
 | 0, _ => ⟨trivial, Nat.le_refl _⟩
 | j + 1, hj => by
   obtain ⟨h1, h2⟩ := state_atN he ho hn j (by omega)
   have hv : l[j]? = some (l[j]'(by omega)) := List.getElem?_eq_getElem _
   rw [take_snoc hv, stateN_app]
   have := step_okN he h1 (ho _ (List.mem_of_getElem? hv)) (by omega)
   exact ⟨this.1, Nat.le_trans this.2 (by omega)⟩
theorem done_snocN (eps : Int) {l : List Int} {j : Nat} {v : Int} (hv : l[j]? = some v) : doneN eps none (l.take (j + 1)) = doneN eps none (l.take j) ++ (stepN eps (stateN eps none (l.take j)) v).2 ∧ stateN eps none (l.take (j + 1)) = (stepN eps (stateN eps none (l.take j)) v).1 := by
 rw [take_snoc hv, doneN_app, stateN_app]
 exact ⟨by simp [doneN], rfl⟩
theorem okN_sum {p : List Int} {s : Mn} (h : IsN p s) : ((s.1 : Int) - 1) * s.2.1 + s.2.2.1 ≤ s.2.2.2 ∧ s.2.2.2 ≤ ((s.1 : Int) - 1) * s.2.2.1 + s.2.1 := by
 obtain ⟨n, lo, hi, sm⟩ := s
 obtain ⟨h1, h2, h3, h4, h5, h6⟩ := h
 simp only at *
 have key : ∀ {q : List Int} {x : Int}, x ∈ q → ∃ r : List Int, q.sum = x + r.sum ∧ r.length + 1 = q.length ∧ ∀ v ∈ r, v ∈ q := by
   intro q x hx
   obtain ⟨a, b, rfl⟩ := List.append_of_mem hx
   refine ⟨a ++ b, by simp; omega, by simp; omega, fun v hv => ?_⟩
   rw [List.mem_append] at hv ⊢
   rcases hv with h | h
   · exact Or.inl h
   · exact Or.inr (by simp [h])
 obtain ⟨r, e1, e2, e3⟩ := key h5
 obtain ⟨r', e1', e2', e3'⟩ := key h4
 have a := sum_ge (p := r) fun v hv => (h3 v (e3 v hv)).1
 have b := sum_le (p := r') fun v hv => (h3 v (e3' v hv)).2
 have l1 : (r.length : Int) = (n : Int) - 1 := by omega
 have l2 : (r'.length : Int) = (n : Int) - 1 := by omega
 rw [l1] at a
 rw [l2] at b
 omega
end
section
def OkV (eps : Int) : Option Mn → Prop
 | none => True
 | some (n, lo, hi, sm) => 1 ≤ n ∧ n ≤ 1073741824 ∧ I64 lo ∧ I64 hi ∧ lo ≤ hi ∧ ((n : Int) - 1) * lo + hi ≤ sm ∧ sm ≤ ((n : Int) - 1) * hi + lo ∧ FitN eps (n, lo, hi, sm)
theorem more_sum {n : Nat} {lo hi sm v : Int} (h1 : 1 ≤ n) (h : lo ≤ hi) (ha : ((n : Int) - 1) * lo + hi ≤ sm) (hb : sm ≤ ((n : Int) - 1) * hi + lo) : (((n + 1 : Nat) : Int) - 1) * min lo v + max hi v ≤ sm + v ∧ sm + v ≤ (((n + 1 : Nat) : Int) - 1) * max hi v + min lo v := by
 have p : (0 : Int) ≤ (n : Int) - 1 := by omega
 have a := Int.mul_le_mul_of_nonneg_left (show min lo v ≤ lo by omega) p
 have b := Int.mul_le_mul_of_nonneg_left (show hi ≤ max hi v by omega) p
 have e : (((n + 1 : Nat) : Int) - 1) = ((n : Int) - 1) + 1 := by omega
 rw [e, Int.add_mul, Int.add_mul, Int.one_mul, Int.one_mul]
 generalize ((n : Int) - 1) * min lo v = x at *
 generalize ((n : Int) - 1) * max hi v = y at *
 generalize ((n : Int) - 1) * lo = x' at *
 generalize ((n : Int) - 1) * hi = y' at *
 omega
theorem okN_okV {eps : Int} {s : Option Mn} (h : OkN eps s) : OkV eps s := by
 rcases s with _ | ⟨n, lo, hi, sm⟩
 · exact trivial
 · obtain ⟨h1, ⟨p, hp, hi'⟩, h3⟩ := h
   have hs := okN_sum hp
   exact ⟨hp.2.1, h1, hi' _ hp.2.2.2.1, hi' _ hp.2.2.2.2.1, (hp.2.2.1 _ hp.2.2.2.1).2, hs.1, hs.2, h3⟩
theorem okV_in {n : Nat} {lo hi sm : Int} (h5 : lo ≤ hi) (h6 : ((n : Int) - 1) * lo + hi ≤ sm) (h7 : sm ≤ ((n : Int) - 1) * hi + lo) : (n : Int) * lo ≤ sm ∧ sm ≤ (n : Int) * hi := by
 rw [Int.sub_mul, Int.one_mul] at h6 h7
 generalize (n : Int) * lo = x at *
 generalize (n : Int) * hi = y at *
 omega
theorem mean_inV {eps : Int} {n : Nat} {lo hi sm : Int} (h : OkV eps (some (n, lo, hi, sm))) : lo ≤ sm / (n : Int) ∧ sm / (n : Int) ≤ hi := by
 obtain ⟨h1, h2, h3, h4, h5, h6, h7, h8⟩ := h
 obtain ⟨a, b⟩ := okV_in h5 h6 h7
 have hp : (0 : Int) < (n : Int) := by omega
 refine ⟨(Int.le_ediv_iff_mul_le hp).2 (by rw [Int.mul_comm]; exact a), ?_⟩
 have := Int.ediv_le_ediv hp b
 rwa [Int.mul_ediv_cancel_left _ (by omega)] at this
theorem mean_i64 {eps : Int} {n : Nat} {lo hi sm : Int} (h : OkV eps (some (n, lo, hi, sm))) : I64 (sm / (n : Int)) := by
 obtain ⟨a, b⟩ := mean_inV h
 obtain ⟨h1, h2, ⟨h3, h3'⟩, ⟨h4, h4'⟩, _⟩ := h
 exact ⟨by omega, by omega⟩
theorem sum_size {eps : Int} {n : Nat} {lo hi sm : Int} (h : OkV eps (some (n, lo, hi, sm))) : sm.natAbs < 19807040628566084398385987584 := by
 obtain ⟨h1, h2, ⟨h3, h3'⟩, ⟨h4, h4'⟩, h5, h6, h7, h8⟩ := h
 obtain ⟨a, b⟩ := okV_in h5 h6 h7
 have p : (0 : Int) ≤ (n : Int) := by omega
 have a1 := Int.mul_le_mul_of_nonneg_left (show (-9223372036854775808 : Int) ≤ lo by omega) p
 have b1 := Int.mul_le_mul_of_nonneg_left (show hi ≤ (9223372036854775807 : Int) by omega) p
 omega
theorem near_fit {eps : Int} {q : List Int} {s : Mn} (h : IsN q s) : (∀ v ∈ q, v - s.2.2.2 / (s.1 : Int) ≤ eps ∧ s.2.2.2 / (s.1 : Int) - v ≤ eps) ↔ FitN eps s := by
 obtain ⟨n, lo, hi, sm⟩ := s
 obtain ⟨h1, h2, h3, h4, h5, h6⟩ := h
 simp only [FitN] at *
 constructor
 · intro ha
   exact ⟨(ha lo h4).2, (ha hi h5).1⟩
 · intro hf v hv
   have := h3 v hv
   generalize sm / (n : Int) = m at *
   omega
theorem sum_take {l : List Int} {j : Nat} {v : Int} (hv : l[j]? = some v) : (l.take (j + 1)).sum = (l.take j).sum + v := by rw [take_snoc hv, List.sum_append]; simp
def NumN (eps c lo hi sm : Int) : Prop := c = 0 ∧ lo = 0 ∧ hi = 0 ∧ sm = 0 ∨ c = 1 ∧ lo = hi ∧ sm = lo ∨ 2 ≤ c ∧ c ≤ 1073741824 ∧ lo ≤ hi ∧ (c - 1) * lo + hi ≤ sm ∧ sm ≤ (c - 1) * hi + lo ∧ sm / c - lo ≤ eps ∧ hi - sm / c ≤ eps
instance (eps c lo hi sm : Int) : Decidable (NumN eps c lo hi sm) := by unfold NumN; infer_instance
end
section
open Go Go.RowKit Go.Sort
theorem q_in {c lo hi z : Int} (h2 : 1 ≤ c) (h5 : lo ≤ hi) (h6 : (c - 1) * lo + hi ≤ z) (h7 : z ≤ (c - 1) * hi + lo) : lo ≤ z / c ∧ z / c ≤ hi := by
 obtain ⟨n, rfl⟩ := Int.eq_ofNat_of_zero_le (show 0 ≤ c by omega)
 obtain ⟨a, b⟩ := okV_in h5 h6 h7
 have hp : (0 : Int) < (n : Int) := by omega
 refine ⟨(Int.le_ediv_iff_mul_le hp).2 (by rw [Int.mul_comm]; exact a), ?_⟩
 have := Int.ediv_le_ediv hp b
 rwa [Int.mul_ediv_cancel_left _ (by omega)] at this
theorem near_lo {q lo t : Int} (ht : Tol t) (h : lo ≤ q) : nearV q lo t = decide (q - lo ≤ t) := by
 have := ht.1
 unfold nearV
 rw [decide_eq_decide]
 omega
theorem near_hi {q hi t : Int} (ht : Tol t) (h : q ≤ hi) : nearV q hi t = decide (hi - q ≤ t) := by
 have := ht.1
 unfold nearV
 rw [decide_eq_decide]
 omega
theorem p_avgM (t c lo hi z : Int) (ic : I64 c) (h2 : 1 ≤ c) (hl : I64 lo) (hh : I64 hi) (hz : F256 z) (h5 : lo ≤ hi) (h6 : (c - 1) * lo + hi ≤ z) (h7 : z ≤ (c - 1) * hi + lo) (W : World) : Calls Try.prog 67 #[.agg (meC t c lo hi z)] W (Ret (.int .i64 (z / c)) W) :=
 p_avg _ t c lo hi z (meX_of _ _ _ _ _) _ hz ic (by omega) rfl (by have := q_in h2 h5 h6 h7; unfold I64 at *; omega) W
theorem p_neaM (t c lo hi z : Int) (ht : Tol t) (ic : I64 c) (h2 : 1 ≤ c) (hl : I64 lo) (hh : I64 hi) (hz : F256 z) (h5 : lo ≤ hi) (h6 : (c - 1) * lo + hi ≤ z) (h7 : z ≤ (c - 1) * hi + lo) (W : World) : Calls Try.prog 57 #[.agg (meC t c lo hi z)] W (Ret (.bool (decide (z / c - lo ≤ t) && decide (hi - z / c ≤ t))) W) := by
 have k1 := hide fun w => p_avgM t c lo hi z ic h2 hl hh hz h5 h6 h7 w
 obtain ⟨a, b⟩ := q_in h2 h5 h6 h7
 have iq : I64 (z / c) := by unfold I64 at *; omega
 have k2 := fun w => p_near (z / c) lo t w iq hl (tol64 ht) _ rfl
 have k3 := fun w => p_near (z / c) hi t w iq hh (tol64 ht) _ rfl
 rw [near_lo ht a] at k2
 rw [near_hi ht b] at k3
 by_cases h : z / c - lo ≤ t
 · rw [decide_eq_true h] at k2 ⊢
   exact p_neaY _ t c lo hi z (meX_of _ _ _ _ _) _ _ k1 (hide k2) (hide k3) W
 · rw [decide_eq_false h] at k2 ⊢
   exact p_neaN _ t c lo hi z (meX_of _ _ _ _ _) _ _ k1 (hide k2) (hide k3) W
end
section
open Go Go.RowKit Go.Sort
attribute [local go_sem] qUpon eUpon putE slE
def coR (c q : Int) : Array Value := #[.int .i64 c, .int .i64 q]
theorem b_co (c q : Int) : Try.prog.built 53 [(0, .int .i64 c), (1, .int .i64 q)] = some (coR c q) := by kernel_rfl
def CS (W0 : World) (l : List (Int × Int)) (s : Nat) (R : Nat → Value) (w : World) : Prop := Ext W0 w ∧ (0 < s → ∃ A k, R 0 = .slice A l.length k ∧ OwnC W0.heap.size w (.slice A l.length k) l)
theorem cs_below {W0 : World} {l : List (Int × Int)} : ∀ s R w w', CS W0 l s R w → Below w.heap.size w w' → CS W0 l s R w' := fun s R w w' h k =>
 ⟨h.1.trans k, fun hs => by
   obtain ⟨A, c, h1, h2⟩ := h.2 hs
   exact ⟨A, c, h1, h2.ext k⟩⟩
theorem cs_filled {W0 w w1 : World} {l : List (Int × Int)} {s : Nat} {R : Nat → Value} {g : Nat} {f : Obj} {cs : Array Value} {T : TypeId} (h : CS W0 l s R w) (hF : Filled w w1 g f) (hg : W0.heap.size ≤ g) (hz : w.heap[g]? = some (.cells cs T (0, 0))) (hT : T ≠ 53) : CS W0 l s R w1 :=
 ⟨ext_filled h.1 hF hg, fun hs => by
   obtain ⟨A, c, h1, h2, h3⟩ := h.2 hs
   refine ⟨A, c, h1, ?_, h3⟩
   obtain ⟨h4, h5 | ⟨g', cap, cur, hv, hg', hh, r⟩⟩ := h2
   · exact ⟨h4, Or.inl h5⟩
   · refine ⟨h4, Or.inr ⟨g', cap, cur, hv, hg', ?_, r⟩⟩
     rw [hF.2.1 g' (fun e => by subst e; rw [hz] at hh; injection hh with hh; injection hh with _ hh _; exact hT hh)]
     exact hh⟩
theorem cs_ev {W0 w w' : World} {l : List (Int × Int)} {R : Nat → Value} {A : Option Addr} {k : Nat} (h : CS W0 l 0 R w) (hO : OwnC w.heap.size w' (.slice A l.length k) l) (hE : Ext w w') : CS W0 l 1 (updR R 0 (.slice A l.length k)) w' ∧ GrowE (fun _ => False) w w' :=
 ⟨⟨h.1.trans hE, fun _ => ⟨A, k, by unfold updR; rw [if_pos rfl], hO.less h.1.size⟩⟩, Below.growE hE⟩
theorem cs_one {W0 w : World} {c q : Int} {R : Nat → Value} (h : CS W0 [(c, q)] 0 R w) (ic : I64 c) (iq : I64 q) : CS W0 [(c, q)] 1 (updR R 0 (.slice (some ⟨w.heap.size, 0, none⟩) 1 1)) (w.alloc (.cells (coR c q) 53)) :=
 ⟨h.1.trans (ext_alloc _ _), fun _ => ⟨some ⟨w.heap.size, 0, none⟩, 1, by unfold updR; rw [if_pos rfl]; rfl, one_co ic iq h.1.size⟩⟩
theorem run_co1 (w : World) (c q : Int) : (Instr.buildSlice 46 1 #[(0, .agg (coR c q))]).run Try.prog w = .ok (.slice (some ⟨w.heap.size, 0, none⟩) 1 1) (w.alloc (.cells (coR c q) 53)) := by
 have hi : (Try.prog.info? 53).map (fun i => (i.size, i.zero)) = some (2, some (.agg #[.int .i64 0, .int .i64 0])) := by kernel_rfl
 obtain ⟨ie, hie, hz, hsz⟩ : ∃ ie, Try.prog.info? 53 = some ie ∧ ie.zero = some (.agg #[.int .i64 0, .int .i64 0]) ∧ ie.size = 2 := by
   cases hj : Try.prog.info? 53 with
   | none => rw [hj] at hi; cases hi
   | some j =>
     rw [hj] at hi
     simp only [Option.map_some, Option.some.injEq, Prod.mk.injEq] at hi
     exact ⟨j, rfl, hi.2, hi.1⟩
 refine run_buildSlice w 46 53 1 _ (coR c q) ie (.agg #[.int .i64 0, .int .i64 0]) (by kernel_rfl) hie hz (by rw [hsz]; decide) (by rw [hsz]; decide) ?_
 rw [hsz]
 kernel_rfl
theorem ev_co1 {T : Nat → (Nat → Value) → World → Prop} {E : Nat → Prop} {m : Nat} {R : Nat → Value} {w : World} {a : Act} {o : Oper} {parts : Array (Nat × Operand)} (c q : Int) (ho : o.op = .buildSlice 46 1 parts) (hx : (parts.map fun (i, x) => (i, a.eval x)) = #[(0, .agg (coR c q))])
   (hT : T (m + 1) (updR R m (.slice (some ⟨w.heap.size, 0, none⟩) 1 1)) (w.alloc (.cells (coR c q) 53))) : eUpon Try.prog T E m R w ((execOp a.eval o).run Try.prog w) := by
 have hr := run_co1 w c q
 unfold execOp
 simp only [ho, hx, Sem.run_bind, hr, Result.andThen_ok, Sem.run_pure]
 exact ⟨hT, Below.growE (below_alloc _ _)⟩
end
section
open Go Go.RowKit Go.Sort
attribute [local go_sem] qUpon eUpon putE slE
set_option maxHeartbeats 3200000 in
set_option maxRecDepth 100000 in
theorem p_startE (e : Int) (W : World) (kt : Hid (∀ w, Calls Try.prog 26 #[.int .i64 e] w (Ret (.bool true) w))) : Calls Try.prog 9 #[.int .i64 e] W (Ret (.tuple #[.agg (meC e 0 0 0 0), .int .i64 0]) W) := by
 have P2 := Blk.new W 27 z9m
 have EE := hide (ext_alloc W (.cells z9m 27))
 obtain ⟨W1, hW1⟩ : ∃ W1, (W.alloc (.cells z9m 27)) = W1 := ⟨_, rfl⟩
 obtain ⟨g0, hg⟩ : ∃ g, W.heap.size = g := ⟨_, rfl⟩
 rw [hW1] at P2 EE
 rw [hg] at P2
 have P2_lo : W.heap.size ≤ g0 := by omega
 have HW := hide hW1
 have Hg := hide hg
 clear hW1 hg
 go_enter Try.func9, Try.ntmps9
 go_upto_region 1 with fail
 unfold z9m at HW
 rw [HW.out, Hg.out]
 clear HW Hg
 refine wp_region_reads ?_
 repeat (first | go_big_quiet_step (first | with_reducible exact quiet_ret (kt.out _)) | quiet_step (first | with_reducible exact quiet_ret (kt.out _)))
 refine wpQuiet_nil ?_
 intro _ hw'
 obtain ⟨⟨dq, osq⟩, hw''⟩ := hw'
 subst hw''
 replace P2 := (P2).ext (ext_regrown W1 dq osq)
 replace EE := hide (EE.out.trans (ext_regrown W1 dq osq))
 obtain ⟨w2, hzq1⟩ : ∃ w, grow (redrawn W1 dq) osq = w := ⟨_, rfl⟩
 rw [hzq1] at EE P2 ⊢
 clear hzq1
 go_upto_region 3 with fail
 have P2_lt := P2.lt
 refine wp_evs [.q, .q, .so 0, .q] [0, 0, 0, 0] (fun R => [.int .i64 e, .agg (meC e 0 0 0 0), undef, .int .i64 0]) (fun _ => (.cells #[] 0 (0, 0))) (fun R _ => (.cells (meC e 0 0 0 0) 27 (0, 0))) (fun _ => g0) (XE W) (fun _ => False) (by kernel_rfl) (by kernel_rfl) (by kernel_rfl) rfl (fun _ => rfl) (fun _ h => h.elim) (fun _ _ h => h) (by intro c hc; simp at hc; (try subst hc); (try simp only); omega) (by intro c c' h1 h2 _; simp at h1 h2; omega) (fun R R' => ⟨fun _ => rfl, fun _ => rfl, fun _ => rfl, fun _ => rfl, trivial⟩) (fun _ _ _ _ => rfl) xe_below EE.out ?ops6 ?end6
 case ops6 =>
   refine ⟨?_, ?_, ?_, ?_, trivial⟩
   · refine er_q ?vn3 ?hn3 ?kn3 ?gn3 ?_
     case hn3 => exact rfl
     case vn3 => exact (fun R => .int .i64 e)
     case kn3 => exact (fun R => rfl)
     case gn3 => exact gd_none rfl
     intro R s w' hT hs hw ha
     go_simp
   · refine er_q ?vn4 ?hn4 ?kn4 ?gn4 ?_
     case hn4 => exact rfl
     case vn4 => exact (fun R => .agg (meC e 0 0 0 0))
     case kn4 => exact (fun R => rfl)
     case gn4 => exact gd_none rfl
     intro R s w' hT hs hw ha
     generalize hA : putE _ _ _ _ _ _ _ = AA
     refine q_buildM (vs := #[(0, .int .i64 e)]) rfl ?_ (b_meT e)
     subst hA
     kernel_rfl
   · refine er_so (c := 0) (Ty := ?Tn5) (p := ?pn5) (x := ?xn5) g0 ?fn5 ?un5 ?vn5 ?hn5 ?on5 ?kn5 ?ln5 ?gn5 ?dn5 ?en5 ?_
     case hn5 => exact rfl
     case on5 => exact rfl
     case fn5 => exact (fun R => (.cells (meC e 0 0 0 0) 27 (0, 0)))
     case un5 => exact (fun R => .pointer (some ⟨g0, 0, none⟩))
     case vn5 => exact (fun R => .agg (meC e 0 0 0 0))
     case kn5 => exact (fun R => rfl)
     case ln5 => exact rfl
     case gn5 => exact gd_none rfl
     case dn5 =>
       intro R
       kernel_rfl
     case en5 =>
       intro R
       kernel_rfl
     intro R s ρ w hT hs hp hx hz
     refine ⟨store_rowN (g := g0) rfl hp hx (hz.trans P2) iMean (rfl) ((meX_of e 0 0 0 0).s) ((meX_of e 0 0 0 0).o), fun w1 hF => ext_filled hT hF P2_lo⟩
   · refine er_q ?vn6 ?hn6 ?kn6 ?gn6 ?_
     case hn6 => exact rfl
     case vn6 => exact (fun R => .int .i64 0)
     case kn6 => exact (fun R => rfl)
     case gn6 => exact gd_none rfl
     intro R s w' hT hs hw ha
     go_simp
 case end6 =>
  intro sI R G w7 hI
  have hS := hI.same
  have hTT := hI.holds
  have hz0 := EE.out.size
  replace P2 : Blk w7 g0 27 (meC e 0 0 0 0) := hI.olds' 2 (List.mem_range.2 (show 2 < 4 by decide)) 0 rfl
  replace EE := hide (show Ext _ _ from hTT)
  clear hS hz0 hTT hI P2_lt
  generalize hF : putE _ _ _ _ _ _ _ = FF
  have hF2 : FF = { tmps := #[.int .i64 e, undef, .pointer (some ⟨g0, 0, none⟩), .int .i64 0, .int .i64 e, .bool true, .bool false, undef, .int .i64 e, .agg (meC e 0 0 0 0)], defers := [] } := by subst hF; kernel_rfl
  clear hF
  subst hF2
  go_wp2_with fail
  exact bodyPost_ret (res2 (p := 2) (u := 3) (ty := 27) rfl _ _ _ 27 (meC e 0 0 0 0) _ rfl P2 uMean rfl iMean) rfl ⟨by kernel_rfl, EE.out⟩
set_option maxHeartbeats 3200000 in
set_option maxRecDepth 100000 in
theorem p_startE_no (e : Int) (W : World) (kt : Hid (∀ w, Calls Try.prog 26 #[.int .i64 e] w (Ret (.bool false) w))) : Calls Try.prog 9 #[.int .i64 e] W (Ret (.tuple #[.agg z9m, .int .i64 9]) W) := by
 have P2 := Blk.new W 27 z9m
 have EE := hide (ext_alloc W (.cells z9m 27))
 obtain ⟨W1, hW1⟩ : ∃ W1, (W.alloc (.cells z9m 27)) = W1 := ⟨_, rfl⟩
 obtain ⟨g0, hg⟩ : ∃ g, W.heap.size = g := ⟨_, rfl⟩
 rw [hW1] at P2 EE
 rw [hg] at P2
 have P2_lo : W.heap.size ≤ g0 := by omega
 have HW := hide hW1
 have Hg := hide hg
 clear hW1 hg
 go_enter Try.func9, Try.ntmps9
 go_upto_region 1 with fail
 unfold z9m at HW
 rw [HW.out, Hg.out]
 clear HW Hg
 refine wp_region_reads ?_
 repeat (first | go_big_quiet_step (first | with_reducible exact quiet_ret (kt.out _)) | quiet_step (first | with_reducible exact quiet_ret (kt.out _)))
 refine wpQuiet_nil ?_
 intro _ hw'
 obtain ⟨⟨dq, osq⟩, hw''⟩ := hw'
 subst hw''
 replace P2 := (P2).ext (ext_regrown W1 dq osq)
 replace EE := hide (EE.out.trans (ext_regrown W1 dq osq))
 obtain ⟨w2, hzq1⟩ : ∃ w, grow (redrawn W1 dq) osq = w := ⟨_, rfl⟩
 rw [hzq1] at EE P2 ⊢
 clear hzq1
 go_upto_region 2 with fail
 have P2_lt := P2.lt
 refine wp_evs [.q, .so 0, .q] [0, 0, 0] (fun R => [.agg z9m, undef, .int .i64 9]) (fun _ => (.cells #[] 0 (0, 0))) (fun R _ => (.cells z9m 27 (0, 0))) (fun _ => g0) (XE W) (fun _ => False) (by kernel_rfl) (by kernel_rfl) (by kernel_rfl) rfl (fun _ => rfl) (fun _ h => h.elim) (fun _ _ h => h) (by intro c hc; simp at hc; (try subst hc); (try simp only); omega) (by intro c c' h1 h2 _; simp at h1 h2; omega) (fun R R' => ⟨fun _ => rfl, fun _ => rfl, fun _ => rfl, trivial⟩) (fun _ _ _ _ => rfl) xe_below EE.out ?ops5 ?end5
 case ops5 =>
   refine ⟨?_, ?_, ?_, trivial⟩
   · refine er_q ?vn3 ?hn3 ?kn3 ?gn3 ?_
     case hn3 => exact rfl
     case vn3 => exact (fun R => .agg z9m)
     case kn3 => exact (fun R => rfl)
     case gn3 => exact gd_none rfl
     intro R s w' hT hs hw ha
     generalize hA : putE _ _ _ _ _ _ _ = AA
     refine q_buildM (vs := #[]) rfl ?_ (b_me0)
     subst hA
     kernel_rfl
   · refine er_so (c := 0) (Ty := ?Tn4) (p := ?pn4) (x := ?xn4) g0 ?fn4 ?un4 ?vn4 ?hn4 ?on4 ?kn4 ?ln4 ?gn4 ?dn4 ?en4 ?_
     case hn4 => exact rfl
     case on4 => exact rfl
     case fn4 => exact (fun R => (.cells z9m 27 (0, 0)))
     case un4 => exact (fun R => .pointer (some ⟨g0, 0, none⟩))
     case vn4 => exact (fun R => .agg z9m)
     case kn4 => exact (fun R => rfl)
     case ln4 => exact rfl
     case gn4 => exact gd_none rfl
     case dn4 =>
       intro R
       kernel_rfl
     case en4 =>
       intro R
       kernel_rfl
     intro R s ρ w hT hs hp hx hz
     refine ⟨store_rowN (g := g0) rfl hp hx (hz.trans P2) iMean (rfl) (rfl) (z9m_one), fun w1 hF => ext_filled hT hF P2_lo⟩
   · refine er_q ?vn5 ?hn5 ?kn5 ?gn5 ?_
     case hn5 => exact rfl
     case vn5 => exact (fun R => .int .i64 9)
     case kn5 => exact (fun R => rfl)
     case gn5 => exact gd_none rfl
     intro R s w' hT hs hw ha
     go_simp
 case end5 =>
  intro sI R G w6 hI
  have hS := hI.same
  have hTT := hI.holds
  have hz0 := EE.out.size
  replace P2 : Blk w6 g0 27 z9m := hI.olds' 1 (List.mem_range.2 (show 1 < 3 by decide)) 0 rfl
  replace EE := hide (show Ext _ _ from hTT)
  clear hS hz0 hTT hI P2_lt
  generalize hF : putE _ _ _ _ _ _ _ = FF
  have hF2 : FF = { tmps := #[.int .i64 e, undef, .pointer (some ⟨g0, 0, none⟩), .int .i64 9, .int .i64 e, .bool false, .bool true, .agg z9m, undef, undef], defers := [] } := by subst hF; kernel_rfl
  clear hF
  subst hF2
  go_wp2_with fail
  exact bodyPost_ret (res2 (p := 2) (u := 3) (ty := 27) rfl _ _ _ 27 z9m _ rfl P2 uMean rfl iMean) rfl ⟨by kernel_rfl, EE.out⟩
set_option maxHeartbeats 3200000 in
set_option maxRecDepth 100000 in
theorem p_ext0e (X : Array Value) (t c lo hi z : Int) (hX : MeX X t c lo hi (wCe z)) (v : Int) (d0 : (c == 0) = true) (W : World) : Calls Try.prog 62 #[.agg X, .int .i64 v] W (Ret (.tuple #[.agg z9m, .bool false]) W) := by
 have P2 := (Blk.new W 27 X).alloc (.cells z9m 27)
 have P4 := Blk.new (W.alloc (.cells X 27)) 27 z9m
 rw [alloc_size] at P4
 have EE := hide ((ext_alloc W (.cells X 27)).trans (ext_alloc _ (.cells z9m 27)))
 obtain ⟨W1, hW1⟩ : ∃ W1, ((W.alloc (.cells X 27)).alloc (.cells z9m 27)) = W1 := ⟨_, rfl⟩
 obtain ⟨g0, hg⟩ : ∃ g, W.heap.size = g := ⟨_, rfl⟩
 rw [hW1] at P2 P4 EE
 rw [hg] at P2 P4
 have P2_lo : W.heap.size ≤ g0 := by omega
 have P4_lo : W.heap.size ≤ g0 + 1 := by omega
 have HW := hide hW1
 have Hg := hide hg
 clear hW1 hg
 go_enter Try.func62, Try.ntmps62
 go_upto_region 1 with fail
 unfold z9m at HW
 rw [HW.out, Hg.out]
 clear HW Hg
 have cq1_0 := fun d os => (((P2).ext (ext_regrown W1 d os)).cell 1).trans (hX.x1)
 refine wp_region_reads ?_
 repeat (first | go_big_quiet_step (fail) | quiet_step (fail))
 refine wpQuiet_nil ?_
 intro _ hw'
 obtain ⟨⟨dq, osq⟩, hw''⟩ := hw'
 subst hw''
 replace P2 := (P2).ext (ext_regrown W1 dq osq)
 replace P4 := (P4).ext (ext_regrown W1 dq osq)
 replace EE := hide (EE.out.trans (ext_regrown W1 dq osq))
 obtain ⟨w2, hzq1⟩ : ∃ w, grow (redrawn W1 dq) osq = w := ⟨_, rfl⟩
 rw [hzq1] at EE P2 P4 ⊢
 clear hzq1 cq1_0
 go_upto_region 2 with fail
 have P2_lt := P2.lt
 have P4_lt := P4.lt
 refine wp_evs [.q, .so 0, .q] [0, 0, 0] (fun R => [.agg z9m, undef, .bool false]) (fun _ => (.cells #[] 0 (0, 0))) (fun R _ => (.cells z9m 27 (0, 0))) (fun _ => g0 + 1) (XE W) (fun _ => False) (by kernel_rfl) (by kernel_rfl) (by kernel_rfl) rfl (fun _ => rfl) (fun _ h => h.elim) (fun _ _ h => h) (by intro c hc; simp at hc; (try subst hc); (try simp only); omega) (by intro c c' h1 h2 _; simp at h1 h2; omega) (fun R R' => ⟨fun _ => rfl, fun _ => rfl, fun _ => rfl, trivial⟩) (fun _ _ _ _ => rfl) xe_below EE.out ?ops5 ?end5
 case ops5 =>
   refine ⟨?_, ?_, ?_, trivial⟩
   · refine er_q ?vn3 ?hn3 ?kn3 ?gn3 ?_
     case hn3 => exact rfl
     case vn3 => exact (fun R => .agg z9m)
     case kn3 => exact (fun R => rfl)
     case gn3 => exact gd_none rfl
     intro R s w' hT hs hw ha
     generalize hA : putE _ _ _ _ _ _ _ = AA
     refine q_buildM (vs := #[]) rfl ?_ (b_me0)
     subst hA
     kernel_rfl
   · refine er_so (c := 0) (Ty := ?Tn4) (p := ?pn4) (x := ?xn4) (g0 + 1) ?fn4 ?un4 ?vn4 ?hn4 ?on4 ?kn4 ?ln4 ?gn4 ?dn4 ?en4 ?_
     case hn4 => exact rfl
     case on4 => exact rfl
     case fn4 => exact (fun R => (.cells z9m 27 (0, 0)))
     case un4 => exact (fun R => .pointer (some ⟨g0 + 1, 0, none⟩))
     case vn4 => exact (fun R => .agg z9m)
     case kn4 => exact (fun R => rfl)
     case ln4 => exact rfl
     case gn4 => exact gd_none rfl
     case dn4 =>
       intro R
       kernel_rfl
     case en4 =>
       intro R
       kernel_rfl
     intro R s ρ w hT hs hp hx hz
     refine ⟨store_rowN (g := (g0 + 1)) rfl hp hx (hz.trans P4) iMean (rfl) (rfl) (z9m_one), fun w1 hF => ext_filled hT hF P4_lo⟩
   · refine er_q ?vn5 ?hn5 ?kn5 ?gn5 ?_
     case hn5 => exact rfl
     case vn5 => exact (fun R => .bool false)
     case kn5 => exact (fun R => rfl)
     case gn5 => exact gd_none rfl
     intro R s w' hT hs hw ha
     go_simp
 case end5 =>
  intro sI R G w6 hI
  have hS := hI.same
  have hTT := hI.holds
  have hz0 := EE.out.size
  replace P2 := P2.sameE hS (fun h => h) (by intro c hc; simp at hc; (try subst hc); (try simp only); omega)
  replace P4 : Blk w6 (g0 + 1) 27 z9m := hI.olds' 1 (List.mem_range.2 (show 1 < 3 by decide)) 0 rfl
  replace EE := hide (show Ext _ _ from hTT)
  clear hS hz0 hTT hI P2_lt P4_lt
  generalize hF : putE _ _ _ _ _ _ _ = FF
  have hF2 : FF = { tmps := #[.agg X, .int .i64 v, .pointer (some ⟨g0, 0, none⟩), undef, .pointer (some ⟨g0 + 1, 0, none⟩), .bool false, undef, undef, undef, .pointer (some ⟨g0, 1, none⟩), .int .i64 c, .bool true, .agg z9m, undef, undef, undef, undef, undef, undef, undef, undef, undef, undef, undef, undef, undef, undef, undef, undef, undef, undef, undef, undef, undef, undef, undef, undef, undef, undef, undef, undef], defers := [] } := by subst hF; kernel_rfl
  clear hF
  subst hF2
  go_wp2_with fail
  exact bodyPost_ret (res2 (p := 4) (u := 5) (ty := 27) rfl _ _ _ 27 z9m _ rfl P4 uMean rfl iMean) rfl ⟨by kernel_rfl, EE.out⟩
set_option maxHeartbeats 3200000 in
set_option maxRecDepth 100000 in
theorem p_extNe (X : Array Value) (t c lo hi z : Int) (hX : MeX X t c lo hi (wCe z)) (v : Int) (u : Int) (d0 : (c == 0) = false) (wr : IntKind.i64.wrap (c + 1) = c + 1) (k1 : Hid (∀ w, Calls Try.prog 68 #[.int .i64 v] w (Ret (.agg (wCe v)) w))) (k2 : Hid (∀ w, Calls Try.prog 73 #[.agg (wCe z), .agg (wCe v)] w (Ret (.tuple #[.agg (wCe u), .bool true]) w))) (kn : Hid (∀ w, Calls Try.prog 57 #[.agg (meC t (c + 1) (min lo v) (max hi v) u)] w (Ret (.bool false) w))) (W : World) : Calls Try.prog 62 #[.agg X, .int .i64 v] W (Ret (.tuple #[.agg z9m, .bool false]) W) := by
 have P2 := (Blk.new W 27 X).alloc (.cells z9m 27)
 have P4 := Blk.new (W.alloc (.cells X 27)) 27 z9m
 rw [alloc_size] at P4
 have EE := hide ((ext_alloc W (.cells X 27)).trans (ext_alloc _ (.cells z9m 27)))
 obtain ⟨W1, hW1⟩ : ∃ W1, ((W.alloc (.cells X 27)).alloc (.cells z9m 27)) = W1 := ⟨_, rfl⟩
 obtain ⟨g0, hg⟩ : ∃ g, W.heap.size = g := ⟨_, rfl⟩
 rw [hW1] at P2 P4 EE
 rw [hg] at P2 P4
 have P2_lo : W.heap.size ≤ g0 := by omega
 have P4_lo : W.heap.size ≤ g0 + 1 := by omega
 have HW := hide hW1
 have Hg := hide hg
 clear hW1 hg
 go_enter Try.func62, Try.ntmps62
 go_upto_region 1 with fail
 unfold z9m at HW
 rw [HW.out, Hg.out]
 clear HW Hg
 have cq1_0 := fun d os => (((P2).ext (ext_regrown W1 d os)).cell 1).trans (hX.x1)
 refine wp_region_reads ?_
 repeat (first | go_big_quiet_step (fail) | quiet_step (fail))
 refine wpQuiet_nil ?_
 intro _ hw'
 obtain ⟨⟨dq, osq⟩, hw''⟩ := hw'
 subst hw''
 replace P2 := (P2).ext (ext_regrown W1 dq osq)
 replace P4 := (P4).ext (ext_regrown W1 dq osq)
 replace EE := hide (EE.out.trans (ext_regrown W1 dq osq))
 obtain ⟨w2, hzq1⟩ : ∃ w, grow (redrawn W1 dq) osq = w := ⟨_, rfl⟩
 rw [hzq1] at EE P2 P4 ⊢
 clear hzq1 cq1_0
 go_upto_region 3 with fail
 have P2_lt := P2.lt
 have P4_lt := P4.lt
 refine wp_ev [.q, .q, .q, .q, .q, .q, .q, .q, .al, .st 8, .q] [0, 0, 0, 0, 0, 0, 0, 0, 0, 0, 0] (fun R => [.pointer (some ⟨g0, 4, none⟩), .agg (wCe z), .int .i64 v, .agg (wCe v), .tuple #[.agg (wCe u), .bool true], .tuple #[.agg (wCe u), .bool true], .agg (wCe u), .bool true, undef, undef, .bool true]) (fun _ => (.cells z5 25 (0, 0))) (fun R _ => (.cells (wCe u) 25 (0, 0))) (fun _ => 0) (XE W) (fun _ => False) (by kernel_rfl) (by kernel_rfl) (by kernel_rfl) (by kernel_rfl) rfl (fun _ => rfl) (fun _ h => h.elim) (fun _ _ h => h) (by simp) (by simp) (fun R R' => ⟨fun _ => rfl, fun _ => rfl, fun _ => rfl, fun _ => rfl, fun _ => rfl, fun _ => rfl, fun _ => rfl, fun _ => rfl, fun _ => rfl, fun _ => rfl, fun _ => rfl, trivial⟩) (fun _ _ _ _ => rfl) xe_below (EE.out.trans (ext_drew _)) ?ops13 ?end13
 case ops13 =>
   refine ⟨?_, ?_, ?_, ?_, ?_, ?_, ?_, ?_, ?_, ?_, ?_, trivial⟩
   · refine er_q ?vn3 ?hn3 ?kn3 ?gn3 ?_
     case hn3 => exact rfl
     case vn3 => exact (fun R => .pointer (some ⟨g0, 4, none⟩))
     case kn3 => exact (fun R => rfl)
     case gn3 => exact gd_none rfl
     intro R s w' hT hs hw ha
     go_simp
   · refine er_q ?vn4 ?hn4 ?kn4 ?gn4 ?_
     case hn4 => exact rfl
     case vn4 => exact (fun R => .agg (wCe z))
     case kn4 => exact (fun R => rfl)
     case gn4 => exact gd_none rfl
     intro R s w' hT hs hw ha
     have L := run_load_part (P2.sameE hw (fun h => h) (by simp)) _ _ uWide rfl 4 5 iWide (by rw [hX.s]; first | decide | omega) _ (hX.x4)
     generalize hA : putE _ _ _ _ _ _ _ = AA
     refine q_load rfl ?_ L
     subst hA
     kernel_rfl
   · refine er_q ?vn5 ?hn5 ?kn5 ?gn5 ?_
     case hn5 => exact rfl
     case vn5 => exact (fun R => .int .i64 v)
     case kn5 => exact (fun R => rfl)
     case gn5 => exact gd_none rfl
     intro R s w' hT hs hw ha
     go_simp
   · refine er_q ?vn6 ?hn6 ?kn6 ?gn6 ?_
     case hn6 => exact rfl
     case vn6 => exact (fun R => .agg (wCe v))
     case kn6 => exact (fun R => rfl)
     case gn6 => exact gd_none rfl
     intro R s w' hT hs hw ha
     go_simp
     exact k1.out w'
   · refine er_q ?vn7 ?hn7 ?kn7 ?gn7 ?_
     case hn7 => exact rfl
     case vn7 => exact (fun R => .tuple #[.agg (wCe u), .bool true])
     case kn7 => exact (fun R => rfl)
     case gn7 => exact gd_none rfl
     intro R s w' hT hs hw ha
     go_simp
     exact k2.out w'
   · refine er_q ?vn8 ?hn8 ?kn8 ?gn8 ?_
     case hn8 => exact rfl
     case vn8 => exact (fun R => .tuple #[.agg (wCe u), .bool true])
     case kn8 => exact (fun R => rfl)
     case gn8 => exact gd_none rfl
     intro R s w' hT hs hw ha
     go_simp
   · refine er_q ?vn9 ?hn9 ?kn9 ?gn9 ?_
     case hn9 => exact rfl
     case vn9 => exact (fun R => .agg (wCe u))
     case kn9 => exact (fun R => rfl)
     case gn9 => exact gd_none rfl
     intro R s w' hT hs hw ha
     go_simp
   · refine er_q ?vn10 ?hn10 ?kn10 ?gn10 ?_
     case hn10 => exact rfl
     case vn10 => exact (fun R => .bool true)
     case kn10 => exact (fun R => rfl)
     case gn10 => exact gd_none rfl
     intro R s w' hT hs hw ha
     go_simp
   · refine er_al ?zn11 ?hn11 ?kn11 ?gn11 ?_
     case zn11 => exact (.cells z5 25 (0, 0))
     case hn11 => exact rfl
     case kn11 => exact rfl
     case gn11 => exact gd_none rfl
     intro ρ w'
     go_simp
     exact ⟨rfl, rfl⟩
   · refine er_st (j := 8) (Ty := ?Tn12) (p := ?pn12) (x := ?xn12) ?fn12 ?zn12 ?vn12 ?hn12 ?on12 ?kn12 ?ln12 ?gn12 ?en12 ?_
     case hn12 => exact rfl
     case on12 => exact rfl
     case fn12 => exact (fun R => (.cells (wCe u) 25 (0, 0)))
     case zn12 => exact (.cells z5 25 (0, 0))
     case vn12 => exact (fun R => .agg (wCe u))
     case kn12 => exact (fun R => rfl)
     case ln12 => exact rfl
     case gn12 => exact gd_none rfl
     case en12 =>
       intro R
       kernel_rfl
     intro R s ρ w g hT hs hp hx hg hz
     exact ⟨store_row rfl hp hx hz iWide ((wC_size u)) ((wC_onee u)), fun w1 hF => ext_filled hT hF (Nat.le_trans EE.out.size hg)⟩
   · refine er_q ?vn13 ?hn13 ?kn13 ?gn13 ?_
     case hn13 => exact rfl
     case vn13 => exact (fun R => .bool true)
     case kn13 => exact (fun R => rfl)
     case gn13 => exact gd_none rfl
     intro R s w' hT hs hw ha
     go_simp
 case end13 =>
  intro sI R G w14 hI
  have hS := hI.same
  have hTT := hI.holds
  have hz0 := EE.out.size
  replace P2 := P2.sameE hS (fun h => h) (by simp)
  replace P4 := P4.sameE hS (fun h => h) (by simp)
  have P6 : Blk w14 (G 8) 25 (wCe u) := (hI.fulls 9 (List.mem_range.2 (show 9 < 11 by decide)) 8 rfl).2.2
  have hmP6 := (hI.made 8 (List.mem_range.2 (show 8 < 11 by decide)) rfl).1
  have P6_lo : W.heap.size ≤ G 8 := Nat.le_trans hz0 hmP6
  have ngP2_6 : g0 ≠ G 8 := by omega
  have ngP4_6 : g0 + 1 ≠ G 8 := by omega
  replace EE := hide (show Ext _ _ from hTT)
  clear hS hz0 hTT hI P2_lt P4_lt
  generalize hF : putE _ _ _ _ _ _ _ = FF
  have hF2 : FF = { tmps := #[.agg X, .int .i64 v, .pointer (some ⟨g0, 0, none⟩), undef, .pointer (some ⟨g0 + 1, 0, none⟩), .bool false, .pointer (some ⟨G 8, 0, none⟩), .bool true, undef, .pointer (some ⟨g0, 1, none⟩), .int .i64 c, .bool false, undef, .tuple #[.agg (wCe u), .bool true], .pointer (some ⟨g0, 4, none⟩), .agg (wCe z), .int .i64 v, .agg (wCe v), .tuple #[.agg (wCe u), .bool true], .agg (wCe u), .bool true, undef, undef, undef, undef, undef, undef, undef, undef, undef, undef, undef, undef, undef, undef, undef, undef, undef, undef, undef, undef], defers := [] } := by subst hF; kernel_rfl
  clear hF
  subst hF2
  generalize G 8 = g6 at *
  go_upto_region 4 with fail
  have P2_lt := P2.lt
  have P4_lt := P4.lt
  have P6_lt := P6.lt
  refine wp_evs [.q, .q, .q, .q, .q, .q, .q, .q, .q, .q, .q, .q, .q, .q, .q, .al, .st 15] [0, 0, 0, 0, 0, 0, 0, 0, 0, 0, 0, 0, 0, 0, 0, 0, 0] (fun R => [.pointer (some ⟨g0, 0, none⟩), .int .i64 t, .pointer (some ⟨g0, 1, none⟩), .int .i64 c, .int .i64 (c + 1), .pointer (some ⟨g0, 2, none⟩), .int .i64 lo, .int .i64 v, .int .i64 (min lo v), .pointer (some ⟨g0, 3, none⟩), .int .i64 hi, .int .i64 v, .int .i64 (max hi v), .agg (wCe u), .agg (meC t (c + 1) (min lo v) (max hi v) u), undef, undef]) (fun _ => (.cells z9m 27 (0, 0))) (fun R _ => (.cells (meC t (c + 1) (min lo v) (max hi v) u) 27 (0, 0))) (fun _ => 0) (XE W) (fun _ => False) (by kernel_rfl) (by kernel_rfl) (by kernel_rfl) rfl (fun _ => rfl) (fun _ h => h.elim) (fun _ _ h => h) (by simp) (by simp) (fun R R' => ⟨fun _ => rfl, fun _ => rfl, fun _ => rfl, fun _ => rfl, fun _ => rfl, fun _ => rfl, fun _ => rfl, fun _ => rfl, fun _ => rfl, fun _ => rfl, fun _ => rfl, fun _ => rfl, fun _ => rfl, fun _ => rfl, fun _ => rfl, fun _ => rfl, fun _ => rfl, trivial⟩) (fun _ _ _ _ => rfl) xe_below EE.out ?ops31 ?end31
  case ops31 =>
    refine ⟨?_, ?_, ?_, ?_, ?_, ?_, ?_, ?_, ?_, ?_, ?_, ?_, ?_, ?_, ?_, ?_, ?_, trivial⟩
    · refine er_q ?vn15 ?hn15 ?kn15 ?gn15 ?_
      case hn15 => exact rfl
      case vn15 => exact (fun R => .pointer (some ⟨g0, 0, none⟩))
      case kn15 => exact (fun R => rfl)
      case gn15 => exact gd_none rfl
      intro R s w' hT hs hw ha
      go_simp
    · refine er_q ?vn16 ?hn16 ?kn16 ?gn16 ?_
      case hn16 => exact rfl
      case vn16 => exact (fun R => .int .i64 t)
      case kn16 => exact (fun R => rfl)
      case gn16 => exact gd_none rfl
      intro R s w' hT hs hw ha
      have cc := ((show Blk w' g0 _ X from P2.sameE hw (fun h => h) (by simp)).cell 0).trans (hX.x0)
      go_simp
    · refine er_q ?vn17 ?hn17 ?kn17 ?gn17 ?_
      case hn17 => exact rfl
      case vn17 => exact (fun R => .pointer (some ⟨g0, 1, none⟩))
      case kn17 => exact (fun R => rfl)
      case gn17 => exact gd_none rfl
      intro R s w' hT hs hw ha
      go_simp
    · refine er_q ?vn18 ?hn18 ?kn18 ?gn18 ?_
      case hn18 => exact rfl
      case vn18 => exact (fun R => .int .i64 c)
      case kn18 => exact (fun R => rfl)
      case gn18 => exact gd_none rfl
      intro R s w' hT hs hw ha
      have cc := ((show Blk w' g0 _ X from P2.sameE hw (fun h => h) (by simp)).cell 1).trans (hX.x1)
      go_simp
    · refine er_q ?vn19 ?hn19 ?kn19 ?gn19 ?_
      case hn19 => exact rfl
      case vn19 => exact (fun R => .int .i64 (c + 1))
      case kn19 => exact (fun R => rfl)
      case gn19 => exact gd_none rfl
      intro R s w' hT hs hw ha
      go_simp
    · refine er_q ?vn20 ?hn20 ?kn20 ?gn20 ?_
      case hn20 => exact rfl
      case vn20 => exact (fun R => .pointer (some ⟨g0, 2, none⟩))
      case kn20 => exact (fun R => rfl)
      case gn20 => exact gd_none rfl
      intro R s w' hT hs hw ha
      go_simp
    · refine er_q ?vn21 ?hn21 ?kn21 ?gn21 ?_
      case hn21 => exact rfl
      case vn21 => exact (fun R => .int .i64 lo)
      case kn21 => exact (fun R => rfl)
      case gn21 => exact gd_none rfl
      intro R s w' hT hs hw ha
      have cc := ((show Blk w' g0 _ X from P2.sameE hw (fun h => h) (by simp)).cell 2).trans (hX.x2)
      go_simp
    · refine er_q ?vn22 ?hn22 ?kn22 ?gn22 ?_
      case hn22 => exact rfl
      case vn22 => exact (fun R => .int .i64 v)
      case kn22 => exact (fun R => rfl)
      case gn22 => exact gd_none rfl
      intro R s w' hT hs hw ha
      go_simp
    · refine er_q ?vn23 ?hn23 ?kn23 ?gn23 ?_
      case hn23 => exact rfl
      case vn23 => exact (fun R => .int .i64 (min lo v))
      case kn23 => exact (fun R => rfl)
      case gn23 => exact gd_none rfl
      intro R s w' hT hs hw ha
      go_simp
    · refine er_q ?vn24 ?hn24 ?kn24 ?gn24 ?_
      case hn24 => exact rfl
      case vn24 => exact (fun R => .pointer (some ⟨g0, 3, none⟩))
      case kn24 => exact (fun R => rfl)
      case gn24 => exact gd_none rfl
      intro R s w' hT hs hw ha
      go_simp
    · refine er_q ?vn25 ?hn25 ?kn25 ?gn25 ?_
      case hn25 => exact rfl
      case vn25 => exact (fun R => .int .i64 hi)
      case kn25 => exact (fun R => rfl)
      case gn25 => exact gd_none rfl
      intro R s w' hT hs hw ha
      have cc := ((show Blk w' g0 _ X from P2.sameE hw (fun h => h) (by simp)).cell 3).trans (hX.x3)
      go_simp
    · refine er_q ?vn26 ?hn26 ?kn26 ?gn26 ?_
      case hn26 => exact rfl
      case vn26 => exact (fun R => .int .i64 v)
      case kn26 => exact (fun R => rfl)
      case gn26 => exact gd_none rfl
      intro R s w' hT hs hw ha
      go_simp
    · refine er_q ?vn27 ?hn27 ?kn27 ?gn27 ?_
      case hn27 => exact rfl
      case vn27 => exact (fun R => .int .i64 (max hi v))
      case kn27 => exact (fun R => rfl)
      case gn27 => exact gd_none rfl
      intro R s w' hT hs hw ha
      go_simp
    · refine er_q ?vn28 ?hn28 ?kn28 ?gn28 ?_
      case hn28 => exact rfl
      case vn28 => exact (fun R => .agg (wCe u))
      case kn28 => exact (fun R => rfl)
      case gn28 => exact gd_none rfl
      intro R s w' hT hs hw ha
      have L := ld_all (P6.sameE hw (fun h => h) (by simp)) uWide rfl iWide (wC_size u)
      generalize hA : putE _ _ _ _ _ _ _ = AA
      refine q_load rfl ?_ L
      subst hA
      kernel_rfl
    · refine er_q ?vn29 ?hn29 ?kn29 ?gn29 ?_
      case hn29 => exact rfl
      case vn29 => exact (fun R => .agg (meC t (c + 1) (min lo v) (max hi v) u))
      case kn29 => exact (fun R => rfl)
      case gn29 => exact gd_none rfl
      intro R s w' hT hs hw ha
      generalize hA : putE _ _ _ _ _ _ _ = AA
      refine q_buildM (vs := #[(0, .int .i64 t), (1, .int .i64 (c + 1)), (2, .int .i64 (min lo v)), (3, .int .i64 (max hi v)), (4, .agg (wCe u))]) rfl ?_ (b_me5w t (c + 1) (min lo v) (max hi v) u)
      subst hA
      kernel_rfl
    · refine er_al ?zn30 ?hn30 ?kn30 ?gn30 ?_
      case zn30 => exact (.cells z9m 27 (0, 0))
      case hn30 => exact rfl
      case kn30 => exact rfl
      case gn30 => exact gd_none rfl
      intro ρ w'
      go_simp
      exact ⟨rfl, rfl⟩
    · refine er_st (j := 15) (Ty := ?Tn31) (p := ?pn31) (x := ?xn31) ?fn31 ?zn31 ?vn31 ?hn31 ?on31 ?kn31 ?ln31 ?gn31 ?en31 ?_
      case hn31 => exact rfl
      case on31 => exact rfl
      case fn31 => exact (fun R => (.cells (meC t (c + 1) (min lo v) (max hi v) u) 27 (0, 0)))
      case zn31 => exact (.cells z9m 27 (0, 0))
      case vn31 => exact (fun R => .agg (meC t (c + 1) (min lo v) (max hi v) u))
      case kn31 => exact (fun R => rfl)
      case ln31 => exact rfl
      case gn31 => exact gd_none rfl
      case en31 =>
        intro R
        kernel_rfl
      intro R s ρ w g hT hs hp hx hg hz
      exact ⟨store_row rfl hp hx hz iMean ((meX_of t (c + 1) (min lo v) (max hi v) u).s) ((meX_of t (c + 1) (min lo v) (max hi v) u).o), fun w1 hF => ext_filled hT hF (Nat.le_trans EE.out.size hg)⟩
  case end31 =>
   intro sI R G w32 hI
   have hS := hI.same
   have hTT := hI.holds
   have hz0 := EE.out.size
   replace P2 := P2.sameE hS (fun h => h) (by simp)
   replace P4 := P4.sameE hS (fun h => h) (by simp)
   replace P6 := P6.sameE hS (fun h => h) (by simp)
   have P8 : Blk w32 (G 15) 27 (meC t (c + 1) (min lo v) (max hi v) u) := (hI.fulls 16 (List.mem_range.2 (show 16 < 17 by decide)) 15 rfl).2.2
   have hmP8 := (hI.made 15 (List.mem_range.2 (show 15 < 17 by decide)) rfl).1
   have P8_lo : W.heap.size ≤ G 15 := Nat.le_trans hz0 hmP8
   have ngP2_8 : g0 ≠ G 15 := by omega
   have ngP4_8 : g0 + 1 ≠ G 15 := by omega
   have ngP6_8 : g6 ≠ G 15 := by omega
   replace EE := hide (show Ext _ _ from hTT)
   clear hS hz0 hTT hI P2_lt P4_lt P6_lt
   generalize hF : putE _ _ _ _ _ _ _ = FF
   have hF2 : FF = { tmps := #[.agg X, .int .i64 v, .pointer (some ⟨g0, 0, none⟩), undef, .pointer (some ⟨g0 + 1, 0, none⟩), .bool false, .pointer (some ⟨g6, 0, none⟩), .bool true, .pointer (some ⟨G 15, 0, none⟩), .pointer (some ⟨g0, 1, none⟩), .int .i64 c, .bool false, undef, .tuple #[.agg (wCe u), .bool true], .pointer (some ⟨g0, 4, none⟩), .agg (wCe z), .int .i64 v, .agg (wCe v), .tuple #[.agg (wCe u), .bool true], .agg (wCe u), .bool true, .pointer (some ⟨g0, 0, none⟩), .int .i64 t, .pointer (some ⟨g0, 1, none⟩), .int .i64 c, .int .i64 (c + 1), .pointer (some ⟨g0, 2, none⟩), .int .i64 lo, .int .i64 v, .int .i64 (min lo v), .pointer (some ⟨g0, 3, none⟩), .int .i64 hi, .int .i64 v, .int .i64 (max hi v), .agg (wCe u), .agg (meC t (c + 1) (min lo v) (max hi v) u), undef, undef, undef, undef, undef], defers := [] } := by subst hF; kernel_rfl
   clear hF
   subst hF2
   generalize G 15 = g8 at *
   go_upto_region 5 with fail
   refine wp_region_reads ?_
   repeat (first | go_big_quiet_step (first | with_reducible exact quiet_ret (kn.out _)) | (refine wq_load (by kernel_rfl) rfl rfl (fun w hw => by obtain ⟨⟨d, os⟩, rfl⟩ := hw; exact ld_all ((P8).ext (ext_regrown w32 d os)) uMean rfl iMean (meX_of t (c + 1) (min lo v) (max hi v) u).s) ?_) | quiet_step (first | with_reducible exact quiet_ret (kn.out _)))
   refine wpQuiet_nil ?_
   intro _ hw'
   obtain ⟨⟨dq, osq⟩, hw''⟩ := hw'
   subst hw''
   replace P2 := (P2).ext (ext_regrown w32 dq osq)
   replace P4 := (P4).ext (ext_regrown w32 dq osq)
   replace P6 := (P6).ext (ext_regrown w32 dq osq)
   replace P8 := (P8).ext (ext_regrown w32 dq osq)
   replace EE := hide (EE.out.trans (ext_regrown w32 dq osq))
   obtain ⟨w34, hzq33⟩ : ∃ w, grow (redrawn w32 dq) osq = w := ⟨_, rfl⟩
   rw [hzq33] at EE P2 P4 P6 P8 ⊢
   clear hzq33
   go_upto_region 6 with fail
   have P2_lt := P2.lt
   have P4_lt := P4.lt
   have P6_lt := P6.lt
   have P8_lt := P8.lt
   refine wp_evs [.q, .so 0, .q] [0, 0, 0] (fun R => [.agg z9m, undef, .bool false]) (fun _ => (.cells #[] 0 (0, 0))) (fun R _ => (.cells z9m 27 (0, 0))) (fun _ => g0 + 1) (XE W) (fun _ => False) (by kernel_rfl) (by kernel_rfl) (by kernel_rfl) rfl (fun _ => rfl) (fun _ h => h.elim) (fun _ _ h => h) (by intro c hc; simp at hc; (try subst hc); (try simp only); omega) (by intro c c' h1 h2 _; simp at h1 h2; omega) (fun R R' => ⟨fun _ => rfl, fun _ => rfl, fun _ => rfl, trivial⟩) (fun _ _ _ _ => rfl) xe_below EE.out ?ops37 ?end37
   case ops37 =>
     refine ⟨?_, ?_, ?_, trivial⟩
     · refine er_q ?vn35 ?hn35 ?kn35 ?gn35 ?_
       case hn35 => exact rfl
       case vn35 => exact (fun R => .agg z9m)
       case kn35 => exact (fun R => rfl)
       case gn35 => exact gd_none rfl
       intro R s w' hT hs hw ha
       generalize hA : putE _ _ _ _ _ _ _ = AA
       refine q_buildM (vs := #[]) rfl ?_ (b_me0)
       subst hA
       kernel_rfl
     · refine er_so (c := 0) (Ty := ?Tn36) (p := ?pn36) (x := ?xn36) (g0 + 1) ?fn36 ?un36 ?vn36 ?hn36 ?on36 ?kn36 ?ln36 ?gn36 ?dn36 ?en36 ?_
       case hn36 => exact rfl
       case on36 => exact rfl
       case fn36 => exact (fun R => (.cells z9m 27 (0, 0)))
       case un36 => exact (fun R => .pointer (some ⟨g0 + 1, 0, none⟩))
       case vn36 => exact (fun R => .agg z9m)
       case kn36 => exact (fun R => rfl)
       case ln36 => exact rfl
       case gn36 => exact gd_none rfl
       case dn36 =>
         intro R
         kernel_rfl
       case en36 =>
         intro R
         kernel_rfl
       intro R s ρ w hT hs hp hx hz
       refine ⟨store_rowN (g := (g0 + 1)) rfl hp hx (hz.trans P4) iMean (rfl) (rfl) (z9m_one), fun w1 hF => ext_filled hT hF P4_lo⟩
     · refine er_q ?vn37 ?hn37 ?kn37 ?gn37 ?_
       case hn37 => exact rfl
       case vn37 => exact (fun R => .bool false)
       case kn37 => exact (fun R => rfl)
       case gn37 => exact gd_none rfl
       intro R s w' hT hs hw ha
       go_simp
   case end37 =>
    intro sI R G w38 hI
    have hS := hI.same
    have hTT := hI.holds
    have hz0 := EE.out.size
    replace P2 := P2.sameE hS (fun h => h) (by intro c hc; simp at hc; (try subst hc); (try simp only); omega)
    replace P6 := P6.sameE hS (fun h => h) (by intro c hc; simp at hc; (try subst hc); (try simp only); omega)
    replace P8 := P8.sameE hS (fun h => h) (by intro c hc; simp at hc; (try subst hc); (try simp only); omega)
    replace P4 : Blk w38 (g0 + 1) 27 z9m := hI.olds' 1 (List.mem_range.2 (show 1 < 3 by decide)) 0 rfl
    replace EE := hide (show Ext _ _ from hTT)
    clear hS hz0 hTT hI P2_lt P4_lt P6_lt P8_lt
    generalize hF : putE _ _ _ _ _ _ _ = FF
    have hF2 : FF = { tmps := #[.agg X, .int .i64 v, .pointer (some ⟨g0, 0, none⟩), undef, .pointer (some ⟨g0 + 1, 0, none⟩), .bool false, .pointer (some ⟨g6, 0, none⟩), .bool true, .pointer (some ⟨g8, 0, none⟩), .pointer (some ⟨g0, 1, none⟩), .int .i64 c, .bool false, undef, .tuple #[.agg (wCe u), .bool true], .pointer (some ⟨g0, 4, none⟩), .agg (wCe z), .int .i64 v, .agg (wCe v), .tuple #[.agg (wCe u), .bool true], .agg (wCe u), .bool true, .pointer (some ⟨g0, 0, none⟩), .int .i64 t, .pointer (some ⟨g0, 1, none⟩), .int .i64 c, .int .i64 (c + 1), .pointer (some ⟨g0, 2, none⟩), .int .i64 lo, .int .i64 v, .int .i64 (min lo v), .pointer (some ⟨g0, 3, none⟩), .int .i64 hi, .int .i64 v, .int .i64 (max hi v), .agg (wCe u), .agg (meC t (c + 1) (min lo v) (max hi v) u), .agg (meC t (c + 1) (min lo v) (max hi v) u), .bool false, .bool true, .agg z9m, undef], defers := [] } := by subst hF; kernel_rfl
    clear hF
    subst hF2
    go_wp2_with fail
    exact bodyPost_ret (res2 (p := 4) (u := 5) (ty := 27) rfl _ _ _ 27 z9m _ rfl P4 uMean rfl iMean) rfl ⟨by kernel_rfl, EE.out⟩
set_option maxHeartbeats 3200000 in
set_option maxRecDepth 100000 in
theorem p_extYe (X : Array Value) (t c lo hi z : Int) (hX : MeX X t c lo hi (wCe z)) (v : Int) (u : Int) (d0 : (c == 0) = false) (wr : IntKind.i64.wrap (c + 1) = c + 1) (k1 : Hid (∀ w, Calls Try.prog 68 #[.int .i64 v] w (Ret (.agg (wCe v)) w))) (k2 : Hid (∀ w, Calls Try.prog 73 #[.agg (wCe z), .agg (wCe v)] w (Ret (.tuple #[.agg (wCe u), .bool true]) w))) (kn : Hid (∀ w, Calls Try.prog 57 #[.agg (meC t (c + 1) (min lo v) (max hi v) u)] w (Ret (.bool true) w))) (W : World) : Calls Try.prog 62 #[.agg X, .int .i64 v] W (Ret (.tuple #[.agg (meC t (c + 1) (min lo v) (max hi v) u), .bool true]) W) := by
 have P2 := (Blk.new W 27 X).alloc (.cells z9m 27)
 have P4 := Blk.new (W.alloc (.cells X 27)) 27 z9m
 rw [alloc_size] at P4
 have EE := hide ((ext_alloc W (.cells X 27)).trans (ext_alloc _ (.cells z9m 27)))
 obtain ⟨W1, hW1⟩ : ∃ W1, ((W.alloc (.cells X 27)).alloc (.cells z9m 27)) = W1 := ⟨_, rfl⟩
 obtain ⟨g0, hg⟩ : ∃ g, W.heap.size = g := ⟨_, rfl⟩
 rw [hW1] at P2 P4 EE
 rw [hg] at P2 P4
 have P2_lo : W.heap.size ≤ g0 := by omega
 have P4_lo : W.heap.size ≤ g0 + 1 := by omega
 have HW := hide hW1
 have Hg := hide hg
 clear hW1 hg
 go_enter Try.func62, Try.ntmps62
 go_upto_region 1 with fail
 unfold z9m at HW
 rw [HW.out, Hg.out]
 clear HW Hg
 have cq1_0 := fun d os => (((P2).ext (ext_regrown W1 d os)).cell 1).trans (hX.x1)
 refine wp_region_reads ?_
 repeat (first | go_big_quiet_step (fail) | quiet_step (fail))
 refine wpQuiet_nil ?_
 intro _ hw'
 obtain ⟨⟨dq, osq⟩, hw''⟩ := hw'
 subst hw''
 replace P2 := (P2).ext (ext_regrown W1 dq osq)
 replace P4 := (P4).ext (ext_regrown W1 dq osq)
 replace EE := hide (EE.out.trans (ext_regrown W1 dq osq))
 obtain ⟨w2, hzq1⟩ : ∃ w, grow (redrawn W1 dq) osq = w := ⟨_, rfl⟩
 rw [hzq1] at EE P2 P4 ⊢
 clear hzq1 cq1_0
 go_upto_region 3 with fail
 have P2_lt := P2.lt
 have P4_lt := P4.lt
 refine wp_ev [.q, .q, .q, .q, .q, .q, .q, .q, .al, .st 8, .q] [0, 0, 0, 0, 0, 0, 0, 0, 0, 0, 0] (fun R => [.pointer (some ⟨g0, 4, none⟩), .agg (wCe z), .int .i64 v, .agg (wCe v), .tuple #[.agg (wCe u), .bool true], .tuple #[.agg (wCe u), .bool true], .agg (wCe u), .bool true, undef, undef, .bool true]) (fun _ => (.cells z5 25 (0, 0))) (fun R _ => (.cells (wCe u) 25 (0, 0))) (fun _ => 0) (XE W) (fun _ => False) (by kernel_rfl) (by kernel_rfl) (by kernel_rfl) (by kernel_rfl) rfl (fun _ => rfl) (fun _ h => h.elim) (fun _ _ h => h) (by simp) (by simp) (fun R R' => ⟨fun _ => rfl, fun _ => rfl, fun _ => rfl, fun _ => rfl, fun _ => rfl, fun _ => rfl, fun _ => rfl, fun _ => rfl, fun _ => rfl, fun _ => rfl, fun _ => rfl, trivial⟩) (fun _ _ _ _ => rfl) xe_below (EE.out.trans (ext_drew _)) ?ops13 ?end13
 case ops13 =>
   refine ⟨?_, ?_, ?_, ?_, ?_, ?_, ?_, ?_, ?_, ?_, ?_, trivial⟩
   · refine er_q ?vn3 ?hn3 ?kn3 ?gn3 ?_
     case hn3 => exact rfl
     case vn3 => exact (fun R => .pointer (some ⟨g0, 4, none⟩))
     case kn3 => exact (fun R => rfl)
     case gn3 => exact gd_none rfl
     intro R s w' hT hs hw ha
     go_simp
   · refine er_q ?vn4 ?hn4 ?kn4 ?gn4 ?_
     case hn4 => exact rfl
     case vn4 => exact (fun R => .agg (wCe z))
     case kn4 => exact (fun R => rfl)
     case gn4 => exact gd_none rfl
     intro R s w' hT hs hw ha
     have L := run_load_part (P2.sameE hw (fun h => h) (by simp)) _ _ uWide rfl 4 5 iWide (by rw [hX.s]; first | decide | omega) _ (hX.x4)
     generalize hA : putE _ _ _ _ _ _ _ = AA
     refine q_load rfl ?_ L
     subst hA
     kernel_rfl
   · refine er_q ?vn5 ?hn5 ?kn5 ?gn5 ?_
     case hn5 => exact rfl
     case vn5 => exact (fun R => .int .i64 v)
     case kn5 => exact (fun R => rfl)
     case gn5 => exact gd_none rfl
     intro R s w' hT hs hw ha
     go_simp
   · refine er_q ?vn6 ?hn6 ?kn6 ?gn6 ?_
     case hn6 => exact rfl
     case vn6 => exact (fun R => .agg (wCe v))
     case kn6 => exact (fun R => rfl)
     case gn6 => exact gd_none rfl
     intro R s w' hT hs hw ha
     go_simp
     exact k1.out w'
   · refine er_q ?vn7 ?hn7 ?kn7 ?gn7 ?_
     case hn7 => exact rfl
     case vn7 => exact (fun R => .tuple #[.agg (wCe u), .bool true])
     case kn7 => exact (fun R => rfl)
     case gn7 => exact gd_none rfl
     intro R s w' hT hs hw ha
     go_simp
     exact k2.out w'
   · refine er_q ?vn8 ?hn8 ?kn8 ?gn8 ?_
     case hn8 => exact rfl
     case vn8 => exact (fun R => .tuple #[.agg (wCe u), .bool true])
     case kn8 => exact (fun R => rfl)
     case gn8 => exact gd_none rfl
     intro R s w' hT hs hw ha
     go_simp
   · refine er_q ?vn9 ?hn9 ?kn9 ?gn9 ?_
     case hn9 => exact rfl
     case vn9 => exact (fun R => .agg (wCe u))
     case kn9 => exact (fun R => rfl)
     case gn9 => exact gd_none rfl
     intro R s w' hT hs hw ha
     go_simp
   · refine er_q ?vn10 ?hn10 ?kn10 ?gn10 ?_
     case hn10 => exact rfl
     case vn10 => exact (fun R => .bool true)
     case kn10 => exact (fun R => rfl)
     case gn10 => exact gd_none rfl
     intro R s w' hT hs hw ha
     go_simp
   · refine er_al ?zn11 ?hn11 ?kn11 ?gn11 ?_
     case zn11 => exact (.cells z5 25 (0, 0))
     case hn11 => exact rfl
     case kn11 => exact rfl
     case gn11 => exact gd_none rfl
     intro ρ w'
     go_simp
     exact ⟨rfl, rfl⟩
   · refine er_st (j := 8) (Ty := ?Tn12) (p := ?pn12) (x := ?xn12) ?fn12 ?zn12 ?vn12 ?hn12 ?on12 ?kn12 ?ln12 ?gn12 ?en12 ?_
     case hn12 => exact rfl
     case on12 => exact rfl
     case fn12 => exact (fun R => (.cells (wCe u) 25 (0, 0)))
     case zn12 => exact (.cells z5 25 (0, 0))
     case vn12 => exact (fun R => .agg (wCe u))
     case kn12 => exact (fun R => rfl)
     case ln12 => exact rfl
     case gn12 => exact gd_none rfl
     case en12 =>
       intro R
       kernel_rfl
     intro R s ρ w g hT hs hp hx hg hz
     exact ⟨store_row rfl hp hx hz iWide ((wC_size u)) ((wC_onee u)), fun w1 hF => ext_filled hT hF (Nat.le_trans EE.out.size hg)⟩
   · refine er_q ?vn13 ?hn13 ?kn13 ?gn13 ?_
     case hn13 => exact rfl
     case vn13 => exact (fun R => .bool true)
     case kn13 => exact (fun R => rfl)
     case gn13 => exact gd_none rfl
     intro R s w' hT hs hw ha
     go_simp
 case end13 =>
  intro sI R G w14 hI
  have hS := hI.same
  have hTT := hI.holds
  have hz0 := EE.out.size
  replace P2 := P2.sameE hS (fun h => h) (by simp)
  replace P4 := P4.sameE hS (fun h => h) (by simp)
  have P6 : Blk w14 (G 8) 25 (wCe u) := (hI.fulls 9 (List.mem_range.2 (show 9 < 11 by decide)) 8 rfl).2.2
  have hmP6 := (hI.made 8 (List.mem_range.2 (show 8 < 11 by decide)) rfl).1
  have P6_lo : W.heap.size ≤ G 8 := Nat.le_trans hz0 hmP6
  have ngP2_6 : g0 ≠ G 8 := by omega
  have ngP4_6 : g0 + 1 ≠ G 8 := by omega
  replace EE := hide (show Ext _ _ from hTT)
  clear hS hz0 hTT hI P2_lt P4_lt
  generalize hF : putE _ _ _ _ _ _ _ = FF
  have hF2 : FF = { tmps := #[.agg X, .int .i64 v, .pointer (some ⟨g0, 0, none⟩), undef, .pointer (some ⟨g0 + 1, 0, none⟩), .bool false, .pointer (some ⟨G 8, 0, none⟩), .bool true, undef, .pointer (some ⟨g0, 1, none⟩), .int .i64 c, .bool false, undef, .tuple #[.agg (wCe u), .bool true], .pointer (some ⟨g0, 4, none⟩), .agg (wCe z), .int .i64 v, .agg (wCe v), .tuple #[.agg (wCe u), .bool true], .agg (wCe u), .bool true, undef, undef, undef, undef, undef, undef, undef, undef, undef, undef, undef, undef, undef, undef, undef, undef, undef, undef, undef, undef], defers := [] } := by subst hF; kernel_rfl
  clear hF
  subst hF2
  generalize G 8 = g6 at *
  go_upto_region 4 with fail
  have P2_lt := P2.lt
  have P4_lt := P4.lt
  have P6_lt := P6.lt
  refine wp_evs [.q, .q, .q, .q, .q, .q, .q, .q, .q, .q, .q, .q, .q, .q, .q, .al, .st 15] [0, 0, 0, 0, 0, 0, 0, 0, 0, 0, 0, 0, 0, 0, 0, 0, 0] (fun R => [.pointer (some ⟨g0, 0, none⟩), .int .i64 t, .pointer (some ⟨g0, 1, none⟩), .int .i64 c, .int .i64 (c + 1), .pointer (some ⟨g0, 2, none⟩), .int .i64 lo, .int .i64 v, .int .i64 (min lo v), .pointer (some ⟨g0, 3, none⟩), .int .i64 hi, .int .i64 v, .int .i64 (max hi v), .agg (wCe u), .agg (meC t (c + 1) (min lo v) (max hi v) u), undef, undef]) (fun _ => (.cells z9m 27 (0, 0))) (fun R _ => (.cells (meC t (c + 1) (min lo v) (max hi v) u) 27 (0, 0))) (fun _ => 0) (XE W) (fun _ => False) (by kernel_rfl) (by kernel_rfl) (by kernel_rfl) rfl (fun _ => rfl) (fun _ h => h.elim) (fun _ _ h => h) (by simp) (by simp) (fun R R' => ⟨fun _ => rfl, fun _ => rfl, fun _ => rfl, fun _ => rfl, fun _ => rfl, fun _ => rfl, fun _ => rfl, fun _ => rfl, fun _ => rfl, fun _ => rfl, fun _ => rfl, fun _ => rfl, fun _ => rfl, fun _ => rfl, fun _ => rfl, fun _ => rfl, fun _ => rfl, trivial⟩) (fun _ _ _ _ => rfl) xe_below EE.out ?ops31 ?end31
  case ops31 =>
    refine ⟨?_, ?_, ?_, ?_, ?_, ?_, ?_, ?_, ?_, ?_, ?_, ?_, ?_, ?_, ?_, ?_, ?_, trivial⟩
    · refine er_q ?vn15 ?hn15 ?kn15 ?gn15 ?_
      case hn15 => exact rfl
      case vn15 => exact (fun R => .pointer (some ⟨g0, 0, none⟩))
      case kn15 => exact (fun R => rfl)
      case gn15 => exact gd_none rfl
      intro R s w' hT hs hw ha
      go_simp
    · refine er_q ?vn16 ?hn16 ?kn16 ?gn16 ?_
      case hn16 => exact rfl
      case vn16 => exact (fun R => .int .i64 t)
      case kn16 => exact (fun R => rfl)
      case gn16 => exact gd_none rfl
      intro R s w' hT hs hw ha
      have cc := ((show Blk w' g0 _ X from P2.sameE hw (fun h => h) (by simp)).cell 0).trans (hX.x0)
      go_simp
    · refine er_q ?vn17 ?hn17 ?kn17 ?gn17 ?_
      case hn17 => exact rfl
      case vn17 => exact (fun R => .pointer (some ⟨g0, 1, none⟩))
      case kn17 => exact (fun R => rfl)
      case gn17 => exact gd_none rfl
      intro R s w' hT hs hw ha
      go_simp
    · refine er_q ?vn18 ?hn18 ?kn18 ?gn18 ?_
      case hn18 => exact rfl
      case vn18 => exact (fun R => .int .i64 c)
      case kn18 => exact (fun R => rfl)
      case gn18 => exact gd_none rfl
      intro R s w' hT hs hw ha
      have cc := ((show Blk w' g0 _ X from P2.sameE hw (fun h => h) (by simp)).cell 1).trans (hX.x1)
      go_simp
    · refine er_q ?vn19 ?hn19 ?kn19 ?gn19 ?_
      case hn19 => exact rfl
      case vn19 => exact (fun R => .int .i64 (c + 1))
      case kn19 => exact (fun R => rfl)
      case gn19 => exact gd_none rfl
      intro R s w' hT hs hw ha
      go_simp
    · refine er_q ?vn20 ?hn20 ?kn20 ?gn20 ?_
      case hn20 => exact rfl
      case vn20 => exact (fun R => .pointer (some ⟨g0, 2, none⟩))
      case kn20 => exact (fun R => rfl)
      case gn20 => exact gd_none rfl
      intro R s w' hT hs hw ha
      go_simp
    · refine er_q ?vn21 ?hn21 ?kn21 ?gn21 ?_
      case hn21 => exact rfl
      case vn21 => exact (fun R => .int .i64 lo)
      case kn21 => exact (fun R => rfl)
      case gn21 => exact gd_none rfl
      intro R s w' hT hs hw ha
      have cc := ((show Blk w' g0 _ X from P2.sameE hw (fun h => h) (by simp)).cell 2).trans (hX.x2)
      go_simp
    · refine er_q ?vn22 ?hn22 ?kn22 ?gn22 ?_
      case hn22 => exact rfl
      case vn22 => exact (fun R => .int .i64 v)
      case kn22 => exact (fun R => rfl)
      case gn22 => exact gd_none rfl
      intro R s w' hT hs hw ha
      go_simp
    · refine er_q ?vn23 ?hn23 ?kn23 ?gn23 ?_
      case hn23 => exact rfl
      case vn23 => exact (fun R => .int .i64 (min lo v))
      case kn23 => exact (fun R => rfl)
      case gn23 => exact gd_none rfl
      intro R s w' hT hs hw ha
      go_simp
    · refine er_q ?vn24 ?hn24 ?kn24 ?gn24 ?_
      case hn24 => exact rfl
      case vn24 => exact (fun R => .pointer (some ⟨g0, 3, none⟩))
      case kn24 => exact (fun R => rfl)
      case gn24 => exact gd_none rfl
      intro R s w' hT hs hw ha
      go_simp
    · refine er_q ?vn25 ?hn25 ?kn25 ?gn25 ?_
      case hn25 => exact rfl
      case vn25 => exact (fun R => .int .i64 hi)
      case kn25 => exact (fun R => rfl)
      case gn25 => exact gd_none rfl
      intro R s w' hT hs hw ha
      have cc := ((show Blk w' g0 _ X from P2.sameE hw (fun h => h) (by simp)).cell 3).trans (hX.x3)
      go_simp
    · refine er_q ?vn26 ?hn26 ?kn26 ?gn26 ?_
      case hn26 => exact rfl
      case vn26 => exact (fun R => .int .i64 v)
      case kn26 => exact (fun R => rfl)
      case gn26 => exact gd_none rfl
      intro R s w' hT hs hw ha
      go_simp
    · refine er_q ?vn27 ?hn27 ?kn27 ?gn27 ?_
      case hn27 => exact rfl
      case vn27 => exact (fun R => .int .i64 (max hi v))
      case kn27 => exact (fun R => rfl)
      case gn27 => exact gd_none rfl
      intro R s w' hT hs hw ha
      go_simp
    · refine er_q ?vn28 ?hn28 ?kn28 ?gn28 ?_
      case hn28 => exact rfl
      case vn28 => exact (fun R => .agg (wCe u))
      case kn28 => exact (fun R => rfl)
      case gn28 => exact gd_none rfl
      intro R s w' hT hs hw ha
      have L := ld_all (P6.sameE hw (fun h => h) (by simp)) uWide rfl iWide (wC_size u)
      generalize hA : putE _ _ _ _ _ _ _ = AA
      refine q_load rfl ?_ L
      subst hA
      kernel_rfl
    · refine er_q ?vn29 ?hn29 ?kn29 ?gn29 ?_
      case hn29 => exact rfl
      case vn29 => exact (fun R => .agg (meC t (c + 1) (min lo v) (max hi v) u))
      case kn29 => exact (fun R => rfl)
      case gn29 => exact gd_none rfl
      intro R s w' hT hs hw ha
      generalize hA : putE _ _ _ _ _ _ _ = AA
      refine q_buildM (vs := #[(0, .int .i64 t), (1, .int .i64 (c + 1)), (2, .int .i64 (min lo v)), (3, .int .i64 (max hi v)), (4, .agg (wCe u))]) rfl ?_ (b_me5w t (c + 1) (min lo v) (max hi v) u)
      subst hA
      kernel_rfl
    · refine er_al ?zn30 ?hn30 ?kn30 ?gn30 ?_
      case zn30 => exact (.cells z9m 27 (0, 0))
      case hn30 => exact rfl
      case kn30 => exact rfl
      case gn30 => exact gd_none rfl
      intro ρ w'
      go_simp
      exact ⟨rfl, rfl⟩
    · refine er_st (j := 15) (Ty := ?Tn31) (p := ?pn31) (x := ?xn31) ?fn31 ?zn31 ?vn31 ?hn31 ?on31 ?kn31 ?ln31 ?gn31 ?en31 ?_
      case hn31 => exact rfl
      case on31 => exact rfl
      case fn31 => exact (fun R => (.cells (meC t (c + 1) (min lo v) (max hi v) u) 27 (0, 0)))
      case zn31 => exact (.cells z9m 27 (0, 0))
      case vn31 => exact (fun R => .agg (meC t (c + 1) (min lo v) (max hi v) u))
      case kn31 => exact (fun R => rfl)
      case ln31 => exact rfl
      case gn31 => exact gd_none rfl
      case en31 =>
        intro R
        kernel_rfl
      intro R s ρ w g hT hs hp hx hg hz
      exact ⟨store_row rfl hp hx hz iMean ((meX_of t (c + 1) (min lo v) (max hi v) u).s) ((meX_of t (c + 1) (min lo v) (max hi v) u).o), fun w1 hF => ext_filled hT hF (Nat.le_trans EE.out.size hg)⟩
  case end31 =>
   intro sI R G w32 hI
   have hS := hI.same
   have hTT := hI.holds
   have hz0 := EE.out.size
   replace P2 := P2.sameE hS (fun h => h) (by simp)
   replace P4 := P4.sameE hS (fun h => h) (by simp)
   replace P6 := P6.sameE hS (fun h => h) (by simp)
   have P8 : Blk w32 (G 15) 27 (meC t (c + 1) (min lo v) (max hi v) u) := (hI.fulls 16 (List.mem_range.2 (show 16 < 17 by decide)) 15 rfl).2.2
   have hmP8 := (hI.made 15 (List.mem_range.2 (show 15 < 17 by decide)) rfl).1
   have P8_lo : W.heap.size ≤ G 15 := Nat.le_trans hz0 hmP8
   have ngP2_8 : g0 ≠ G 15 := by omega
   have ngP4_8 : g0 + 1 ≠ G 15 := by omega
   have ngP6_8 : g6 ≠ G 15 := by omega
   replace EE := hide (show Ext _ _ from hTT)
   clear hS hz0 hTT hI P2_lt P4_lt P6_lt
   generalize hF : putE _ _ _ _ _ _ _ = FF
   have hF2 : FF = { tmps := #[.agg X, .int .i64 v, .pointer (some ⟨g0, 0, none⟩), undef, .pointer (some ⟨g0 + 1, 0, none⟩), .bool false, .pointer (some ⟨g6, 0, none⟩), .bool true, .pointer (some ⟨G 15, 0, none⟩), .pointer (some ⟨g0, 1, none⟩), .int .i64 c, .bool false, undef, .tuple #[.agg (wCe u), .bool true], .pointer (some ⟨g0, 4, none⟩), .agg (wCe z), .int .i64 v, .agg (wCe v), .tuple #[.agg (wCe u), .bool true], .agg (wCe u), .bool true, .pointer (some ⟨g0, 0, none⟩), .int .i64 t, .pointer (some ⟨g0, 1, none⟩), .int .i64 c, .int .i64 (c + 1), .pointer (some ⟨g0, 2, none⟩), .int .i64 lo, .int .i64 v, .int .i64 (min lo v), .pointer (some ⟨g0, 3, none⟩), .int .i64 hi, .int .i64 v, .int .i64 (max hi v), .agg (wCe u), .agg (meC t (c + 1) (min lo v) (max hi v) u), undef, undef, undef, undef, undef], defers := [] } := by subst hF; kernel_rfl
   clear hF
   subst hF2
   generalize G 15 = g8 at *
   go_upto_region 5 with fail
   refine wp_region_reads ?_
   repeat (first | go_big_quiet_step (first | with_reducible exact quiet_ret (kn.out _)) | (refine wq_load (by kernel_rfl) rfl rfl (fun w hw => by obtain ⟨⟨d, os⟩, rfl⟩ := hw; exact ld_all ((P8).ext (ext_regrown w32 d os)) uMean rfl iMean (meX_of t (c + 1) (min lo v) (max hi v) u).s) ?_) | quiet_step (first | with_reducible exact quiet_ret (kn.out _)))
   refine wpQuiet_nil ?_
   intro _ hw'
   obtain ⟨⟨dq, osq⟩, hw''⟩ := hw'
   subst hw''
   replace P2 := (P2).ext (ext_regrown w32 dq osq)
   replace P4 := (P4).ext (ext_regrown w32 dq osq)
   replace P6 := (P6).ext (ext_regrown w32 dq osq)
   replace P8 := (P8).ext (ext_regrown w32 dq osq)
   replace EE := hide (EE.out.trans (ext_regrown w32 dq osq))
   obtain ⟨w34, hzq33⟩ : ∃ w, grow (redrawn w32 dq) osq = w := ⟨_, rfl⟩
   rw [hzq33] at EE P2 P4 P6 P8 ⊢
   clear hzq33
   go_upto_region 7 with fail
   have P2_lt := P2.lt
   have P4_lt := P4.lt
   have P6_lt := P6.lt
   have P8_lt := P8.lt
   refine wp_evs [.q, .so 0, .q] [0, 0, 0] (fun R => [.agg (meC t (c + 1) (min lo v) (max hi v) u), undef, .bool true]) (fun _ => (.cells #[] 0 (0, 0))) (fun R _ => (.cells (meC t (c + 1) (min lo v) (max hi v) u) 27 (0, 0))) (fun _ => g0 + 1) (XE W) (fun _ => False) (by kernel_rfl) (by kernel_rfl) (by kernel_rfl) rfl (fun _ => rfl) (fun _ h => h.elim) (fun _ _ h => h) (by intro c hc; simp at hc; (try subst hc); (try simp only); omega) (by intro c c' h1 h2 _; simp at h1 h2; omega) (fun R R' => ⟨fun _ => rfl, fun _ => rfl, fun _ => rfl, trivial⟩) (fun _ _ _ _ => rfl) xe_below EE.out ?ops37 ?end37
   case ops37 =>
     refine ⟨?_, ?_, ?_, trivial⟩
     · refine er_q ?vn35 ?hn35 ?kn35 ?gn35 ?_
       case hn35 => exact rfl
       case vn35 => exact (fun R => .agg (meC t (c + 1) (min lo v) (max hi v) u))
       case kn35 => exact (fun R => rfl)
       case gn35 => exact gd_none rfl
       intro R s w' hT hs hw ha
       have L := ld_all (P8.sameE hw (fun h => h) (by intro c hc; simp at hc; (try subst hc); (try simp only); omega)) uMean rfl iMean (meX_of t (c + 1) (min lo v) (max hi v) u).s
       generalize hA : putE _ _ _ _ _ _ _ = AA
       refine q_load rfl ?_ L
       subst hA
       kernel_rfl
     · refine er_so (c := 0) (Ty := ?Tn36) (p := ?pn36) (x := ?xn36) (g0 + 1) ?fn36 ?un36 ?vn36 ?hn36 ?on36 ?kn36 ?ln36 ?gn36 ?dn36 ?en36 ?_
       case hn36 => exact rfl
       case on36 => exact rfl
       case fn36 => exact (fun R => (.cells (meC t (c + 1) (min lo v) (max hi v) u) 27 (0, 0)))
       case un36 => exact (fun R => .pointer (some ⟨g0 + 1, 0, none⟩))
       case vn36 => exact (fun R => .agg (meC t (c + 1) (min lo v) (max hi v) u))
       case kn36 => exact (fun R => rfl)
       case ln36 => exact rfl
       case gn36 => exact gd_none rfl
       case dn36 =>
         intro R
         kernel_rfl
       case en36 =>
         intro R
         kernel_rfl
       intro R s ρ w hT hs hp hx hz
       refine ⟨store_rowN (g := (g0 + 1)) rfl hp hx (hz.trans P4) iMean (rfl) ((meX_of t (c + 1) (min lo v) (max hi v) u).s) ((meX_of t (c + 1) (min lo v) (max hi v) u).o), fun w1 hF => ext_filled hT hF P4_lo⟩
     · refine er_q ?vn37 ?hn37 ?kn37 ?gn37 ?_
       case hn37 => exact rfl
       case vn37 => exact (fun R => .bool true)
       case kn37 => exact (fun R => rfl)
       case gn37 => exact gd_none rfl
       intro R s w' hT hs hw ha
       go_simp
   case end37 =>
    intro sI R G w38 hI
    have hS := hI.same
    have hTT := hI.holds
    have hz0 := EE.out.size
    replace P2 := P2.sameE hS (fun h => h) (by intro c hc; simp at hc; (try subst hc); (try simp only); omega)
    replace P6 := P6.sameE hS (fun h => h) (by intro c hc; simp at hc; (try subst hc); (try simp only); omega)
    replace P8 := P8.sameE hS (fun h => h) (by intro c hc; simp at hc; (try subst hc); (try simp only); omega)
    replace P4 : Blk w38 (g0 + 1) 27 (meC t (c + 1) (min lo v) (max hi v) u) := hI.olds' 1 (List.mem_range.2 (show 1 < 3 by decide)) 0 rfl
    replace EE := hide (show Ext _ _ from hTT)
    clear hS hz0 hTT hI P2_lt P4_lt P6_lt P8_lt
    generalize hF : putE _ _ _ _ _ _ _ = FF
    have hF2 : FF = { tmps := #[.agg X, .int .i64 v, .pointer (some ⟨g0, 0, none⟩), undef, .pointer (some ⟨g0 + 1, 0, none⟩), .bool true, .pointer (some ⟨g6, 0, none⟩), .bool true, .pointer (some ⟨g8, 0, none⟩), .pointer (some ⟨g0, 1, none⟩), .int .i64 c, .bool false, undef, .tuple #[.agg (wCe u), .bool true], .pointer (some ⟨g0, 4, none⟩), .agg (wCe z), .int .i64 v, .agg (wCe v), .tuple #[.agg (wCe u), .bool true], .agg (wCe u), .bool true, .pointer (some ⟨g0, 0, none⟩), .int .i64 t, .pointer (some ⟨g0, 1, none⟩), .int .i64 c, .int .i64 (c + 1), .pointer (some ⟨g0, 2, none⟩), .int .i64 lo, .int .i64 v, .int .i64 (min lo v), .pointer (some ⟨g0, 3, none⟩), .int .i64 hi, .int .i64 v, .int .i64 (max hi v), .agg (wCe u), .agg (meC t (c + 1) (min lo v) (max hi v) u), .agg (meC t (c + 1) (min lo v) (max hi v) u), .bool true, .bool false, undef, .agg (meC t (c + 1) (min lo v) (max hi v) u)], defers := [] } := by subst hF; kernel_rfl
    clear hF
    subst hF2
    go_wp2_with fail
    exact bodyPost_ret (res2 (p := 4) (u := 5) (ty := 27) rfl _ _ _ 27 (meC t (c + 1) (min lo v) (max hi v) u) _ rfl P4 uMean rfl iMean) rfl ⟨by kernel_rfl, EE.out⟩
set_option maxHeartbeats 3200000 in
set_option maxRecDepth 100000 in
theorem p_end0 (X S : Array Value) (t c lo hi : Int) (hX : MeX X t c lo hi S) (sS : S.size = 5) (oS : S.all (·.oneCell') = true) (d0 : (c == 0) = true) (W : World) : Calls Try.prog 52 #[.agg X] W (CoGet [] W) := by
 have P1 := Blk.new W 27 X
 have EE := hide (ext_alloc W (.cells X 27))
 obtain ⟨W1, hW1⟩ : ∃ W1, (W.alloc (.cells X 27)) = W1 := ⟨_, rfl⟩
 obtain ⟨g0, hg⟩ : ∃ g, W.heap.size = g := ⟨_, rfl⟩
 rw [hW1] at P1 EE
 rw [hg] at P1
 have P1_lo : W.heap.size ≤ g0 := by omega
 have HW := hide hW1
 have Hg := hide hg
 clear hW1 hg
 go_enter Try.func52, Try.ntmps52
 go_upto_region 1 with fail
 rw [HW.out, Hg.out]
 clear HW Hg
 have cq1_0 := fun d os => (((P1).ext (ext_regrown W1 d os)).cell 1).trans (hX.x1)
 refine wp_region_reads ?_
 repeat (first | go_big_quiet_step (fail) | quiet_step (fail))
 refine wpQuiet_nil ?_
 intro _ hw'
 obtain ⟨⟨dq, osq⟩, hw''⟩ := hw'
 subst hw''
 replace P1 := (P1).ext (ext_regrown W1 dq osq)
 replace EE := hide (EE.out.trans (ext_regrown W1 dq osq))
 obtain ⟨w2, hzq1⟩ : ∃ w, grow (redrawn W1 dq) osq = w := ⟨_, rfl⟩
 rw [hzq1] at EE P1 ⊢
 clear hzq1 cq1_0
 go_wp2_with fail
 go_ret
 exact ⟨none, 0, rfl, OwnC.nil_ _ _, EE.out⟩
set_option maxHeartbeats 3200000 in
set_option maxRecDepth 100000 in
theorem p_endYe (X S : Array Value) (t c lo hi : Int) (hX : MeX X t c lo hi S) (q : Int) (sS : S.size = 5) (oS : S.all (·.oneCell') = true) (d0 : (c == 0) = false) (ic : I64 c) (iq : I64 q) (ka : Hid (∀ w, Calls Try.prog 67 #[.agg X] w (Ret (.int .i64 q) w))) (W : World) : Calls Try.prog 52 #[.agg X] W (CoGet [(c, q)] W) := by
 have P1 := Blk.new W 27 X
 have EE := hide (ext_alloc W (.cells X 27))
 obtain ⟨W1, hW1⟩ : ∃ W1, (W.alloc (.cells X 27)) = W1 := ⟨_, rfl⟩
 obtain ⟨g0, hg⟩ : ∃ g, W.heap.size = g := ⟨_, rfl⟩
 rw [hW1] at P1 EE
 rw [hg] at P1
 have P1_lo : W.heap.size ≤ g0 := by omega
 have HW := hide hW1
 have Hg := hide hg
 clear hW1 hg
 go_enter Try.func52, Try.ntmps52
 go_upto_region 1 with fail
 rw [HW.out, Hg.out]
 clear HW Hg
 have cq1_0 := fun d os => (((P1).ext (ext_regrown W1 d os)).cell 1).trans (hX.x1)
 refine wp_region_reads ?_
 repeat (first | go_big_quiet_step (fail) | quiet_step (fail))
 refine wpQuiet_nil ?_
 intro _ hw'
 obtain ⟨⟨dq, osq⟩, hw''⟩ := hw'
 subst hw''
 replace P1 := (P1).ext (ext_regrown W1 dq osq)
 replace EE := hide (EE.out.trans (ext_regrown W1 dq osq))
 obtain ⟨w2, hzq1⟩ : ∃ w, grow (redrawn W1 dq) osq = w := ⟨_, rfl⟩
 rw [hzq1] at EE P1 ⊢
 clear hzq1 cq1_0
 go_upto_region 3 with fail
 have P1_lt := P1.lt
 refine wp_ev [.q, .q, .q, .q, .q, .ev 0, .q] [0, 0, 0, 0, 0, 0, 1] (fun R => [.pointer (some ⟨g0, 1, none⟩), .int .i64 c, .agg X, .int .i64 q, .agg (coR c q), undef, (R 0)]) (fun _ => (.cells #[] 0 (0, 0))) (fun R _ => (.cells #[] 0 (0, 0))) (fun _ => 0) (CS W [(c, q)]) (fun _ => False) (by kernel_rfl) (by kernel_rfl) (by kernel_rfl) (by kernel_rfl) rfl (fun _ => rfl) (fun _ h => h.elim) (fun _ _ h => h) (by simp) (by simp) (fun R R' => ⟨fun _ => rfl, fun _ => rfl, fun _ => rfl, fun _ => rfl, fun _ => rfl, fun _ => rfl, fun h => by simp only [h 0 (by decide)], trivial⟩) (fun _ _ _ _ => rfl) cs_below ⟨EE.out.trans (ext_drew _), fun h => absurd h (by decide)⟩ ?ops9 ?end9
 case ops9 =>
   refine ⟨?_, ?_, ?_, ?_, ?_, ?_, ?_, trivial⟩
   · refine er_q ?vn3 ?hn3 ?kn3 ?gn3 ?_
     case hn3 => exact rfl
     case vn3 => exact (fun R => .pointer (some ⟨g0, 1, none⟩))
     case kn3 => exact (fun R => rfl)
     case gn3 => exact gd_none rfl
     intro R s w' hT hs hw ha
     go_simp
   · refine er_q ?vn4 ?hn4 ?kn4 ?gn4 ?_
     case hn4 => exact rfl
     case vn4 => exact (fun R => .int .i64 c)
     case kn4 => exact (fun R => rfl)
     case gn4 => exact gd_none rfl
     intro R s w' hT hs hw ha
     have cc := ((show Blk w' g0 _ X from P1.sameE hw (fun h => h) (by simp)).cell 1).trans (hX.x1)
     go_simp
   · refine er_q ?vn5 ?hn5 ?kn5 ?gn5 ?_
     case hn5 => exact rfl
     case vn5 => exact (fun R => .agg X)
     case kn5 => exact (fun R => rfl)
     case gn5 => exact gd_none rfl
     intro R s w' hT hs hw ha
     have L := ld_all (P1.sameE hw (fun h => h) (by simp)) uMean rfl iMean hX.s
     generalize hA : putE _ _ _ _ _ _ _ = AA
     refine q_load rfl ?_ L
     subst hA
     kernel_rfl
   · refine er_q ?vn6 ?hn6 ?kn6 ?gn6 ?_
     case hn6 => exact rfl
     case vn6 => exact (fun R => .int .i64 q)
     case kn6 => exact (fun R => rfl)
     case gn6 => exact gd_none rfl
     intro R s w' hT hs hw ha
     go_simp
     exact ka.out w'
   · refine er_q ?vn7 ?hn7 ?kn7 ?gn7 ?_
     case hn7 => exact rfl
     case vn7 => exact (fun R => .agg (coR c q))
     case kn7 => exact (fun R => rfl)
     case gn7 => exact gd_none rfl
     intro R s w' hT hs hw ha
     generalize hA : putE _ _ _ _ _ _ _ = AA
     refine q_buildM (vs := #[(0, .int .i64 c), (1, .int .i64 q)]) rfl ?_ (b_co c q)
     subst hA
     kernel_rfl
   · refine er_ev (m := 0) ?hn8 ?gn8 ?_
     case hn8 => exact rfl
     case gn8 => exact gd_none rfl
     intro R w' hT hw
     generalize hA : putE _ _ _ _ _ _ _ = AA
     refine ev_co1 c q rfl ?_ (cs_one hT ic iq)
     subst hA
     kernel_rfl
   · refine er_q ?vn9 ?hn9 ?kn9 ?gn9 ?_
     case hn9 => exact rfl
     case vn9 => exact (fun R => (R 0))
     case kn9 => exact (fun R => rfl)
     case gn9 => exact gd_none rfl
     intro R s w' hT hs hw ha
     go_simp
 case end9 =>
  intro sI R G w10 hI
  have hS := hI.same
  have hTT := hI.holds
  have hz0 := EE.out.size
  have hs0 : 0 < sI := (hI.stage 5 (show 5 < 7 by decide) 0 rfl).1 (List.mem_range.2 (show 5 < 7 by decide))
  obtain ⟨A1, k1, e1, O1⟩ := hTT.2 hs0
  replace P1 := P1.sameE hS (fun h => h) (by simp)
  replace EE := hide hTT.1
  clear hS hz0 hTT hI P1_lt
  generalize hF : putE _ _ _ _ _ _ _ = FF
  have hF2 : FF = { tmps := #[.agg X, .pointer (some ⟨g0, 0, none⟩), (R 0), .pointer (some ⟨g0, 1, none⟩), .int .i64 c, .bool false, .pointer (some ⟨g0, 1, none⟩), .int .i64 c, .agg X, .int .i64 q, .agg (coR c q), (R 0)], defers := [] } := by subst hF; kernel_rfl
  clear hF
  subst hF2
  (try simp only [e1])
  have O1 := hide O1
  go_wp2_with fail
  go_ret
  exact ⟨A1, k1, rfl, O1.out, EE.out⟩
end
section
open Go Go.RowKit Go.Sort
attribute [local go_sem] qUpon eUpon putE slE
def sgN : Array Value := #[.func (.func 62) #[] #[], .func (.func 55) #[] #[], .func (.func 52) #[] #[]]
theorem uSgn : Try.prog.underlying 86 = some (.struct (Try.prog.fieldsOf 86)) := by kernel_rfl
theorem iSgn : (Try.prog.info? 86).map (·.size) = some 3 := by kernel_rfl
theorem p_means (W : World) : Calls Try.prog 42 #[] W (Ret (.agg sgN) W) := by
 go_enter Try.func42, Try.ntmps42
 go_wp2_with fail
 exact bodyPost_ret (results_cell_row (p := 0) (ty := 86) rfl _ _ _ 86 sgN (0, 0) _ rfl (Blk.new _ _ _) uSgn rfl iSgn) rfl ⟨rfl, ext_alloc _ _⟩
set_option maxHeartbeats 3200000 in
set_option maxRecDepth 100000 in
theorem p_segY (X S : Array Value) (t c lo hi : Int) (hX : MeX X t c lo hi S) (Y : Array Value) (v : Int) (sY : Y.size = 9) (oY : Y.all (·.oneCell') = true) (kx : Hid (∀ w, Calls Try.prog 62 #[.agg X, .int .i64 v] w (Ret (.tuple #[.agg Y, .bool true]) w))) (W : World) : Calls Try.prog 51 #[.agg sgN, .agg X, .int .i64 v] W (CoPair Y [] W) := by
 have he1 : ∀ a w, (callFunc 62 a).run Try.prog w = .ok (.enter 62 a) w := fun a w => by go_simp
 have P3 := ((Blk.new W 86 sgN).alloc (.cells X 27)).alloc (.cells z9m 27)
 have P4 := (Blk.new (W.alloc (.cells sgN 86)) 27 X).alloc (.cells z9m 27)
 rw [alloc_size] at P4
 have P6 := Blk.new ((W.alloc (.cells sgN 86)).alloc (.cells X 27)) 27 z9m
 simp only [alloc_size] at P6
 have EE := hide (((ext_alloc W (.cells sgN 86)).trans (ext_alloc _ (.cells X 27))).trans (ext_alloc _ (.cells z9m 27)))
 obtain ⟨W1, hW1⟩ : ∃ W1, (((W.alloc (.cells sgN 86)).alloc (.cells X 27)).alloc (.cells z9m 27)) = W1 := ⟨_, rfl⟩
 obtain ⟨g0, hg⟩ : ∃ g, W.heap.size = g := ⟨_, rfl⟩
 rw [hW1] at P3 P4 P6 EE
 rw [hg] at P3 P4 P6
 have P3_lo : W.heap.size ≤ g0 := by omega
 have P4_lo : W.heap.size ≤ g0 + 1 := by omega
 have P6_lo : W.heap.size ≤ g0 + 1 + 1 := by omega
 have HW := hide hW1
 have Hg := hide hg
 clear hW1 hg
 go_enter Try.func51, Try.ntmps51
 go_upto_region 1 with fail
 unfold z9m at HW
 rw [HW.out, Hg.out]
 clear HW Hg
 have P3_lt := P3.lt
 have P4_lt := P4.lt
 have P6_lt := P6.lt
 refine wp_evs [.q, .q, .q, .q, .q, .q, .q, .q, .al, .st 8, .q] [0, 0, 0, 0, 0, 0, 0, 0, 0, 0, 0] (fun R => [.pointer (some ⟨g0, 0, none⟩), .func (.func 62) #[] #[], .agg X, .int .i64 v, .tuple #[.agg Y, .bool true], .tuple #[.agg Y, .bool true], .agg Y, .bool true, undef, undef, .bool true]) (fun _ => (.cells z9m 27 (0, 0))) (fun R _ => (.cells Y 27 (0, 0))) (fun _ => 0) (XE W) (fun _ => False) (by kernel_rfl) (by kernel_rfl) (by kernel_rfl) rfl (fun _ => rfl) (fun _ h => h.elim) (fun _ _ h => h) (by simp) (by simp) (fun R R' => ⟨fun _ => rfl, fun _ => rfl, fun _ => rfl, fun _ => rfl, fun _ => rfl, fun _ => rfl, fun _ => rfl, fun _ => rfl, fun _ => rfl, fun _ => rfl, fun _ => rfl, trivial⟩) (fun _ _ _ _ => rfl) xe_below EE.out ?ops11 ?end11
 case ops11 =>
   refine ⟨?_, ?_, ?_, ?_, ?_, ?_, ?_, ?_, ?_, ?_, ?_, trivial⟩
   · refine er_q ?vn1 ?hn1 ?kn1 ?gn1 ?_
     case hn1 => exact rfl
     case vn1 => exact (fun R => .pointer (some ⟨g0, 0, none⟩))
     case kn1 => exact (fun R => rfl)
     case gn1 => exact gd_none rfl
     intro R s w' hT hs hw ha
     go_simp
   · refine er_q ?vn2 ?hn2 ?kn2 ?gn2 ?_
     case hn2 => exact rfl
     case vn2 => exact (fun R => .func (.func 62) #[] #[])
     case kn2 => exact (fun R => rfl)
     case gn2 => exact gd_none rfl
     intro R s w' hT hs hw ha
     have cc := ((show Blk w' g0 _ sgN from P3.sameE hw (fun h => h) (by simp)).cell 0).trans (show sgN[0]? = some (.func (.func 62) #[] #[]) from rfl)
     go_simp
   · refine er_q ?vn3 ?hn3 ?kn3 ?gn3 ?_
     case hn3 => exact rfl
     case vn3 => exact (fun R => .agg X)
     case kn3 => exact (fun R => rfl)
     case gn3 => exact gd_none rfl
     intro R s w' hT hs hw ha
     have L := ld_all (P4.sameE hw (fun h => h) (by simp)) uMean rfl iMean hX.s
     generalize hA : putE _ _ _ _ _ _ _ = AA
     refine q_load rfl ?_ L
     subst hA
     kernel_rfl
   · refine er_q ?vn4 ?hn4 ?kn4 ?gn4 ?_
     case hn4 => exact rfl
     case vn4 => exact (fun R => .int .i64 v)
     case kn4 => exact (fun R => rfl)
     case gn4 => exact gd_none rfl
     intro R s w' hT hs hw ha
     go_simp
   · refine er_q ?vn5 ?hn5 ?kn5 ?gn5 ?_
     case hn5 => exact rfl
     case vn5 => exact (fun R => .tuple #[.agg Y, .bool true])
     case kn5 => exact (fun R => rfl)
     case gn5 => exact gd_none rfl
     intro R s w' hT hs hw ha
     go_simp
     exact kx.out w'
   · refine er_q ?vn6 ?hn6 ?kn6 ?gn6 ?_
     case hn6 => exact rfl
     case vn6 => exact (fun R => .tuple #[.agg Y, .bool true])
     case kn6 => exact (fun R => rfl)
     case gn6 => exact gd_none rfl
     intro R s w' hT hs hw ha
     go_simp
   · refine er_q ?vn7 ?hn7 ?kn7 ?gn7 ?_
     case hn7 => exact rfl
     case vn7 => exact (fun R => .agg Y)
     case kn7 => exact (fun R => rfl)
     case gn7 => exact gd_none rfl
     intro R s w' hT hs hw ha
     go_simp
   · refine er_q ?vn8 ?hn8 ?kn8 ?gn8 ?_
     case hn8 => exact rfl
     case vn8 => exact (fun R => .bool true)
     case kn8 => exact (fun R => rfl)
     case gn8 => exact gd_none rfl
     intro R s w' hT hs hw ha
     go_simp
   · refine er_al ?zn9 ?hn9 ?kn9 ?gn9 ?_
     case zn9 => exact (.cells z9m 27 (0, 0))
     case hn9 => exact rfl
     case kn9 => exact rfl
     case gn9 => exact gd_none rfl
     intro ρ w'
     go_simp
     exact ⟨rfl, rfl⟩
   · refine er_st (j := 8) (Ty := ?Tn10) (p := ?pn10) (x := ?xn10) ?fn10 ?zn10 ?vn10 ?hn10 ?on10 ?kn10 ?ln10 ?gn10 ?en10 ?_
     case hn10 => exact rfl
     case on10 => exact rfl
     case fn10 => exact (fun R => (.cells Y 27 (0, 0)))
     case zn10 => exact (.cells z9m 27 (0, 0))
     case vn10 => exact (fun R => .agg Y)
     case kn10 => exact (fun R => rfl)
     case ln10 => exact rfl
     case gn10 => exact gd_none rfl
     case en10 =>
       intro R
       kernel_rfl
     intro R s ρ w g hT hs hp hx hg hz
     exact ⟨store_row rfl hp hx hz iMean (sY) (oY), fun w1 hF => ext_filled hT hF (Nat.le_trans EE.out.size hg)⟩
   · refine er_q ?vn11 ?hn11 ?kn11 ?gn11 ?_
     case hn11 => exact rfl
     case vn11 => exact (fun R => .bool true)
     case kn11 => exact (fun R => rfl)
     case gn11 => exact gd_none rfl
     intro R s w' hT hs hw ha
     go_simp
 case end11 =>
  intro sI R G w12 hI
  have hS := hI.same
  have hTT := hI.holds
  have hz0 := EE.out.size
  replace P3 := P3.sameE hS (fun h => h) (by simp)
  replace P4 := P4.sameE hS (fun h => h) (by simp)
  replace P6 := P6.sameE hS (fun h => h) (by simp)
  have P8 : Blk w12 (G 8) 27 Y := (hI.fulls 9 (List.mem_range.2 (show 9 < 11 by decide)) 8 rfl).2.2
  have hmP8 := (hI.made 8 (List.mem_range.2 (show 8 < 11 by decide)) rfl).1
  have P8_lo : W.heap.size ≤ G 8 := Nat.le_trans hz0 hmP8
  have ngP3_8 : g0 ≠ G 8 := by omega
  have ngP4_8 : g0 + 1 ≠ G 8 := by omega
  have ngP6_8 : g0 + 1 + 1 ≠ G 8 := by omega
  replace EE := hide (show Ext _ _ from hTT)
  clear hS hz0 hTT hI P3_lt P4_lt P6_lt
  generalize hF : putE _ _ _ _ _ _ _ = FF
  have hF2 : FF = { tmps := #[.agg sgN, .agg X, .int .i64 v, .pointer (some ⟨g0, 0, none⟩), .pointer (some ⟨g0 + 1, 0, none⟩), undef, .pointer (some ⟨g0 + 1 + 1, 0, none⟩), .slice none 0 0, .pointer (some ⟨G 8, 0, none⟩), .bool true, .tuple #[.agg Y, .bool true], .pointer (some ⟨g0, 0, none⟩), .func (.func 62) #[] #[], .agg X, .int .i64 v, .tuple #[.agg Y, .bool true], .agg Y, .bool true, undef, undef, undef, undef, undef, undef, undef, undef, undef, undef, undef], defers := [] } := by subst hF; kernel_rfl
  clear hF
  subst hF2
  generalize G 8 = g8 at *
  go_upto_region 2 with fail
  refine wp_region_reads ?_
  repeat (first | go_big_quiet_step (fail) | quiet_step (fail))
  refine wpQuiet_nil ?_
  intro _ hw'
  obtain ⟨⟨dq, osq⟩, hw''⟩ := hw'
  subst hw''
  replace P3 := (P3).ext (ext_regrown w12 dq osq)
  replace P4 := (P4).ext (ext_regrown w12 dq osq)
  replace P6 := (P6).ext (ext_regrown w12 dq osq)
  replace P8 := (P8).ext (ext_regrown w12 dq osq)
  replace EE := hide (EE.out.trans (ext_regrown w12 dq osq))
  obtain ⟨w14, hzq13⟩ : ∃ w, grow (redrawn w12 dq) osq = w := ⟨_, rfl⟩
  rw [hzq13] at EE P3 P4 P6 P8 ⊢
  clear hzq13
  go_upto_region 3 with fail
  have P3_lt := P3.lt
  have P4_lt := P4.lt
  have P6_lt := P6.lt
  have P8_lt := P8.lt
  refine wp_evs [.q, .so 0, .q] [0, 0, 0] (fun R => [.agg Y, undef, .slice none 0 0]) (fun _ => (.cells #[] 0 (0, 0))) (fun R _ => (.cells Y 27 (0, 0))) (fun _ => g0 + 1 + 1) (XE W) (fun _ => False) (by kernel_rfl) (by kernel_rfl) (by kernel_rfl) rfl (fun _ => rfl) (fun _ h => h.elim) (fun _ _ h => h) (by intro c hc; simp at hc; (try subst hc); (try simp only); omega) (by intro c c' h1 h2 _; simp at h1 h2; omega) (fun R R' => ⟨fun _ => rfl, fun _ => rfl, fun _ => rfl, trivial⟩) (fun _ _ _ _ => rfl) xe_below EE.out ?ops17 ?end17
  case ops17 =>
    refine ⟨?_, ?_, ?_, trivial⟩
    · refine er_q ?vn15 ?hn15 ?kn15 ?gn15 ?_
      case hn15 => exact rfl
      case vn15 => exact (fun R => .agg Y)
      case kn15 => exact (fun R => rfl)
      case gn15 => exact gd_none rfl
      intro R s w' hT hs hw ha
      have L := ld_all (P8.sameE hw (fun h => h) (by intro c hc; simp at hc; (try subst hc); (try simp only); omega)) uMean rfl iMean sY
      generalize hA : putE _ _ _ _ _ _ _ = AA
      refine q_load rfl ?_ L
      subst hA
      kernel_rfl
    · refine er_so (c := 0) (Ty := ?Tn16) (p := ?pn16) (x := ?xn16) (g0 + 1 + 1) ?fn16 ?un16 ?vn16 ?hn16 ?on16 ?kn16 ?ln16 ?gn16 ?dn16 ?en16 ?_
      case hn16 => exact rfl
      case on16 => exact rfl
      case fn16 => exact (fun R => (.cells Y 27 (0, 0)))
      case un16 => exact (fun R => .pointer (some ⟨g0 + 1 + 1, 0, none⟩))
      case vn16 => exact (fun R => .agg Y)
      case kn16 => exact (fun R => rfl)
      case ln16 => exact rfl
      case gn16 => exact gd_none rfl
      case dn16 =>
        intro R
        kernel_rfl
      case en16 =>
        intro R
        kernel_rfl
      intro R s ρ w hT hs hp hx hz
      refine ⟨store_rowN (g := (g0 + 1 + 1)) rfl hp hx (hz.trans P6) iMean (rfl) (sY) (oY), fun w1 hF => ext_filled hT hF P6_lo⟩
    · refine er_q ?vn17 ?hn17 ?kn17 ?gn17 ?_
      case hn17 => exact rfl
      case vn17 => exact (fun R => .slice none 0 0)
      case kn17 => exact (fun R => rfl)
      case gn17 => exact gd_none rfl
      intro R s w' hT hs hw ha
      go_simp
  case end17 =>
   intro sI R G w18 hI
   have hS := hI.same
   have hTT := hI.holds
   have hz0 := EE.out.size
   replace P3 := P3.sameE hS (fun h => h) (by intro c hc; simp at hc; (try subst hc); (try simp only); omega)
   replace P4 := P4.sameE hS (fun h => h) (by intro c hc; simp at hc; (try subst hc); (try simp only); omega)
   replace P8 := P8.sameE hS (fun h => h) (by intro c hc; simp at hc; (try subst hc); (try simp only); omega)
   replace P6 : Blk w18 (g0 + 1 + 1) 27 Y := hI.olds' 1 (List.mem_range.2 (show 1 < 3 by decide)) 0 rfl
   replace EE := hide (show Ext _ _ from hTT)
   clear hS hz0 hTT hI P3_lt P4_lt P6_lt P8_lt
   generalize hF : putE _ _ _ _ _ _ _ = FF
   have hF2 : FF = { tmps := #[.agg sgN, .agg X, .int .i64 v, .pointer (some ⟨g0, 0, none⟩), .pointer (some ⟨g0 + 1, 0, none⟩), undef, .pointer (some ⟨g0 + 1 + 1, 0, none⟩), .slice none 0 0, .pointer (some ⟨g8, 0, none⟩), .bool true, .tuple #[.agg Y, .bool true], .pointer (some ⟨g0, 0, none⟩), .func (.func 62) #[] #[], .agg X, .int .i64 v, .tuple #[.agg Y, .bool true], .agg Y, .bool true, .bool true, .agg Y, undef, undef, undef, undef, undef, undef, undef, undef, undef], defers := [] } := by subst hF; kernel_rfl
   clear hF
   subst hF2
   go_wp2_with fail
   exact bodyPost_ret (res2 (p := 6) (u := 7) (ty := 27) rfl _ _ _ 27 Y _ rfl P6 uMean rfl (by rw [sY]; exact iMean)) rfl ⟨none, 0, by kernel_rfl, OwnC.nil_ _ _, EE.out⟩
set_option maxHeartbeats 3200000 in
set_option maxRecDepth 100000 in
theorem p_segN (X S : Array Value) (t c lo hi : Int) (hX : MeX X t c lo hi S) (Y : Array Value) (v : Int) (l : List (Int × Int)) (sY : Y.size = 9) (oY : Y.all (·.oneCell') = true) (kx : Hid (∀ w, Calls Try.prog 62 #[.agg X, .int .i64 v] w (Ret (.tuple #[.agg z9m, .bool false]) w))) (kb : Hid (∀ w, Calls Try.prog 55 #[.agg X, .int .i64 v] w (Ret (.agg Y) w))) (ke : Hid (∀ w, Calls Try.prog 52 #[.agg X] w (CoGet l w))) (W : World) : Calls Try.prog 51 #[.agg sgN, .agg X, .int .i64 v] W (CoPair Y l W) := by
 have he1 : ∀ a w, (callFunc 62 a).run Try.prog w = .ok (.enter 62 a) w := fun a w => by go_simp
 have he2 : ∀ a w, (callFunc 55 a).run Try.prog w = .ok (.enter 55 a) w := fun a w => by go_simp
 have he3 : ∀ a w, (callFunc 52 a).run Try.prog w = .ok (.enter 52 a) w := fun a w => by go_simp
 have P3 := ((Blk.new W 86 sgN).alloc (.cells X 27)).alloc (.cells z9m 27)
 have P4 := (Blk.new (W.alloc (.cells sgN 86)) 27 X).alloc (.cells z9m 27)
 rw [alloc_size] at P4
 have P6 := Blk.new ((W.alloc (.cells sgN 86)).alloc (.cells X 27)) 27 z9m
 simp only [alloc_size] at P6
 have EE := hide (((ext_alloc W (.cells sgN 86)).trans (ext_alloc _ (.cells X 27))).trans (ext_alloc _ (.cells z9m 27)))
 obtain ⟨W1, hW1⟩ : ∃ W1, (((W.alloc (.cells sgN 86)).alloc (.cells X 27)).alloc (.cells z9m 27)) = W1 := ⟨_, rfl⟩
 obtain ⟨g0, hg⟩ : ∃ g, W.heap.size = g := ⟨_, rfl⟩
 rw [hW1] at P3 P4 P6 EE
 rw [hg] at P3 P4 P6
 have P3_lo : W.heap.size ≤ g0 := by omega
 have P4_lo : W.heap.size ≤ g0 + 1 := by omega
 have P6_lo : W.heap.size ≤ g0 + 1 + 1 := by omega
 have HW := hide hW1
 have Hg := hide hg
 clear hW1 hg
 go_enter Try.func51, Try.ntmps51
 go_upto_region 1 with fail
 unfold z9m at HW
 rw [HW.out, Hg.out]
 clear HW Hg
 have P3_lt := P3.lt
 have P4_lt := P4.lt
 have P6_lt := P6.lt
 refine wp_evs [.q, .q, .q, .q, .q, .q, .q, .q, .al, .st 8, .q] [0, 0, 0, 0, 0, 0, 0, 0, 0, 0, 0] (fun R => [.pointer (some ⟨g0, 0, none⟩), .func (.func 62) #[] #[], .agg X, .int .i64 v, .tuple #[.agg z9m, .bool false], .tuple #[.agg z9m, .bool false], .agg z9m, .bool false, undef, undef, .bool false]) (fun _ => (.cells z9m 27 (0, 0))) (fun R _ => (.cells z9m 27 (0, 0))) (fun _ => 0) (XE W) (fun _ => False) (by kernel_rfl) (by kernel_rfl) (by kernel_rfl) rfl (fun _ => rfl) (fun _ h => h.elim) (fun _ _ h => h) (by simp) (by simp) (fun R R' => ⟨fun _ => rfl, fun _ => rfl, fun _ => rfl, fun _ => rfl, fun _ => rfl, fun _ => rfl, fun _ => rfl, fun _ => rfl, fun _ => rfl, fun _ => rfl, fun _ => rfl, trivial⟩) (fun _ _ _ _ => rfl) xe_below EE.out ?ops11 ?end11
 case ops11 =>
   refine ⟨?_, ?_, ?_, ?_, ?_, ?_, ?_, ?_, ?_, ?_, ?_, trivial⟩
   · refine er_q ?vn1 ?hn1 ?kn1 ?gn1 ?_
     case hn1 => exact rfl
     case vn1 => exact (fun R => .pointer (some ⟨g0, 0, none⟩))
     case kn1 => exact (fun R => rfl)
     case gn1 => exact gd_none rfl
     intro R s w' hT hs hw ha
     go_simp
   · refine er_q ?vn2 ?hn2 ?kn2 ?gn2 ?_
     case hn2 => exact rfl
     case vn2 => exact (fun R => .func (.func 62) #[] #[])
     case kn2 => exact (fun R => rfl)
     case gn2 => exact gd_none rfl
     intro R s w' hT hs hw ha
     have cc := ((show Blk w' g0 _ sgN from P3.sameE hw (fun h => h) (by simp)).cell 0).trans (show sgN[0]? = some (.func (.func 62) #[] #[]) from rfl)
     go_simp
   · refine er_q ?vn3 ?hn3 ?kn3 ?gn3 ?_
     case hn3 => exact rfl
     case vn3 => exact (fun R => .agg X)
     case kn3 => exact (fun R => rfl)
     case gn3 => exact gd_none rfl
     intro R s w' hT hs hw ha
     have L := ld_all (P4.sameE hw (fun h => h) (by simp)) uMean rfl iMean hX.s
     generalize hA : putE _ _ _ _ _ _ _ = AA
     refine q_load rfl ?_ L
     subst hA
     kernel_rfl
   · refine er_q ?vn4 ?hn4 ?kn4 ?gn4 ?_
     case hn4 => exact rfl
     case vn4 => exact (fun R => .int .i64 v)
     case kn4 => exact (fun R => rfl)
     case gn4 => exact gd_none rfl
     intro R s w' hT hs hw ha
     go_simp
   · refine er_q ?vn5 ?hn5 ?kn5 ?gn5 ?_
     case hn5 => exact rfl
     case vn5 => exact (fun R => .tuple #[.agg z9m, .bool false])
     case kn5 => exact (fun R => rfl)
     case gn5 => exact gd_none rfl
     intro R s w' hT hs hw ha
     go_simp
     exact kx.out w'
   · refine er_q ?vn6 ?hn6 ?kn6 ?gn6 ?_
     case hn6 => exact rfl
     case vn6 => exact (fun R => .tuple #[.agg z9m, .bool false])
     case kn6 => exact (fun R => rfl)
     case gn6 => exact gd_none rfl
     intro R s w' hT hs hw ha
     go_simp
   · refine er_q ?vn7 ?hn7 ?kn7 ?gn7 ?_
     case hn7 => exact rfl
     case vn7 => exact (fun R => .agg z9m)
     case kn7 => exact (fun R => rfl)
     case gn7 => exact gd_none rfl
     intro R s w' hT hs hw ha
     go_simp
   · refine er_q ?vn8 ?hn8 ?kn8 ?gn8 ?_
     case hn8 => exact rfl
     case vn8 => exact (fun R => .bool false)
     case kn8 => exact (fun R => rfl)
     case gn8 => exact gd_none rfl
     intro R s w' hT hs hw ha
     go_simp
   · refine er_al ?zn9 ?hn9 ?kn9 ?gn9 ?_
     case zn9 => exact (.cells z9m 27 (0, 0))
     case hn9 => exact rfl
     case kn9 => exact rfl
     case gn9 => exact gd_none rfl
     intro ρ w'
     go_simp
     exact ⟨rfl, rfl⟩
   · refine er_st (j := 8) (Ty := ?Tn10) (p := ?pn10) (x := ?xn10) ?fn10 ?zn10 ?vn10 ?hn10 ?on10 ?kn10 ?ln10 ?gn10 ?en10 ?_
     case hn10 => exact rfl
     case on10 => exact rfl
     case fn10 => exact (fun R => (.cells z9m 27 (0, 0)))
     case zn10 => exact (.cells z9m 27 (0, 0))
     case vn10 => exact (fun R => .agg z9m)
     case kn10 => exact (fun R => rfl)
     case ln10 => exact rfl
     case gn10 => exact gd_none rfl
     case en10 =>
       intro R
       kernel_rfl
     intro R s ρ w g hT hs hp hx hg hz
     exact ⟨store_row rfl hp hx hz iMean (rfl) (z9m_one), fun w1 hF => ext_filled hT hF (Nat.le_trans EE.out.size hg)⟩
   · refine er_q ?vn11 ?hn11 ?kn11 ?gn11 ?_
     case hn11 => exact rfl
     case vn11 => exact (fun R => .bool false)
     case kn11 => exact (fun R => rfl)
     case gn11 => exact gd_none rfl
     intro R s w' hT hs hw ha
     go_simp
 case end11 =>
  intro sI R G w12 hI
  have hS := hI.same
  have hTT := hI.holds
  have hz0 := EE.out.size
  replace P3 := P3.sameE hS (fun h => h) (by simp)
  replace P4 := P4.sameE hS (fun h => h) (by simp)
  replace P6 := P6.sameE hS (fun h => h) (by simp)
  have P8 : Blk w12 (G 8) 27 z9m := (hI.fulls 9 (List.mem_range.2 (show 9 < 11 by decide)) 8 rfl).2.2
  have hmP8 := (hI.made 8 (List.mem_range.2 (show 8 < 11 by decide)) rfl).1
  have P8_lo : W.heap.size ≤ G 8 := Nat.le_trans hz0 hmP8
  have ngP3_8 : g0 ≠ G 8 := by omega
  have ngP4_8 : g0 + 1 ≠ G 8 := by omega
  have ngP6_8 : g0 + 1 + 1 ≠ G 8 := by omega
  replace EE := hide (show Ext _ _ from hTT)
  clear hS hz0 hTT hI P3_lt P4_lt P6_lt
  generalize hF : putE _ _ _ _ _ _ _ = FF
  have hF2 : FF = { tmps := #[.agg sgN, .agg X, .int .i64 v, .pointer (some ⟨g0, 0, none⟩), .pointer (some ⟨g0 + 1, 0, none⟩), undef, .pointer (some ⟨g0 + 1 + 1, 0, none⟩), .slice none 0 0, .pointer (some ⟨G 8, 0, none⟩), .bool false, .tuple #[.agg z9m, .bool false], .pointer (some ⟨g0, 0, none⟩), .func (.func 62) #[] #[], .agg X, .int .i64 v, .tuple #[.agg z9m, .bool false], .agg z9m, .bool false, undef, undef, undef, undef, undef, undef, undef, undef, undef, undef, undef], defers := [] } := by subst hF; kernel_rfl
  clear hF
  subst hF2
  generalize G 8 = g8 at *
  go_upto_region 2 with fail
  refine wp_region_reads ?_
  repeat (first | go_big_quiet_step (fail) | quiet_step (fail))
  refine wpQuiet_nil ?_
  intro _ hw'
  obtain ⟨⟨dq, osq⟩, hw''⟩ := hw'
  subst hw''
  replace P3 := (P3).ext (ext_regrown w12 dq osq)
  replace P4 := (P4).ext (ext_regrown w12 dq osq)
  replace P6 := (P6).ext (ext_regrown w12 dq osq)
  replace P8 := (P8).ext (ext_regrown w12 dq osq)
  replace EE := hide (EE.out.trans (ext_regrown w12 dq osq))
  obtain ⟨w14, hzq13⟩ : ∃ w, grow (redrawn w12 dq) osq = w := ⟨_, rfl⟩
  rw [hzq13] at EE P3 P4 P6 P8 ⊢
  clear hzq13
  go_upto_region 4 with fail
  have P3_lt := P3.lt
  have P4_lt := P4.lt
  have P6_lt := P6.lt
  have P8_lt := P8.lt
  refine wp_ev [.q, .q, .q, .q, .q, .q, .q, .q, .ev 0, .so 0, .q] [0, 0, 0, 0, 0, 0, 0, 0, 0, 0, 1] (fun R => [.pointer (some ⟨g0, 1, none⟩), .func (.func 55) #[] #[], .agg X, .int .i64 v, .agg Y, .pointer (some ⟨g0, 2, none⟩), .func (.func 52) #[] #[], .agg X, undef, undef, (R 0)]) (fun _ => (.cells #[] 0 (0, 0))) (fun R _ => (.cells Y 27 (0, 0))) (fun _ => g0 + 1 + 1) (CS W l) (fun _ => False) (by kernel_rfl) (by kernel_rfl) (by kernel_rfl) (by kernel_rfl) rfl (fun _ => rfl) (fun _ h => h.elim) (fun _ _ h => h) (by intro c hc; simp at hc; (try subst hc); (try simp only); omega) (by intro c c' h1 h2 _; simp at h1 h2; omega) (fun R R' => ⟨fun _ => rfl, fun _ => rfl, fun _ => rfl, fun _ => rfl, fun _ => rfl, fun _ => rfl, fun _ => rfl, fun _ => rfl, fun _ => rfl, fun _ => rfl, fun h => by simp only [h 0 (by decide)], trivial⟩) (fun _ _ _ _ => rfl) cs_below ⟨EE.out.trans (ext_drew _), fun h => absurd h (by decide)⟩ ?ops25 ?end25
  case ops25 =>
    refine ⟨?_, ?_, ?_, ?_, ?_, ?_, ?_, ?_, ?_, ?_, ?_, trivial⟩
    · refine er_q ?vn15 ?hn15 ?kn15 ?gn15 ?_
      case hn15 => exact rfl
      case vn15 => exact (fun R => .pointer (some ⟨g0, 1, none⟩))
      case kn15 => exact (fun R => rfl)
      case gn15 => exact gd_none rfl
      intro R s w' hT hs hw ha
      go_simp
    · refine er_q ?vn16 ?hn16 ?kn16 ?gn16 ?_
      case hn16 => exact rfl
      case vn16 => exact (fun R => .func (.func 55) #[] #[])
      case kn16 => exact (fun R => rfl)
      case gn16 => exact gd_none rfl
      intro R s w' hT hs hw ha
      have cc := ((show Blk w' g0 _ sgN from P3.sameE hw (fun h => h) (by intro c hc; simp at hc; (try subst hc); (try simp only); omega)).cell 1).trans (show sgN[1]? = some (.func (.func 55) #[] #[]) from rfl)
      go_simp
    · refine er_q ?vn17 ?hn17 ?kn17 ?gn17 ?_
      case hn17 => exact rfl
      case vn17 => exact (fun R => .agg X)
      case kn17 => exact (fun R => rfl)
      case gn17 => exact gd_none rfl
      intro R s w' hT hs hw ha
      have L := ld_all (P4.sameE hw (fun h => h) (by intro c hc; simp at hc; (try subst hc); (try simp only); omega)) uMean rfl iMean hX.s
      generalize hA : putE _ _ _ _ _ _ _ = AA
      refine q_load rfl ?_ L
      subst hA
      kernel_rfl
    · refine er_q ?vn18 ?hn18 ?kn18 ?gn18 ?_
      case hn18 => exact rfl
      case vn18 => exact (fun R => .int .i64 v)
      case kn18 => exact (fun R => rfl)
      case gn18 => exact gd_none rfl
      intro R s w' hT hs hw ha
      go_simp
    · refine er_q ?vn19 ?hn19 ?kn19 ?gn19 ?_
      case hn19 => exact rfl
      case vn19 => exact (fun R => .agg Y)
      case kn19 => exact (fun R => rfl)
      case gn19 => exact gd_none rfl
      intro R s w' hT hs hw ha
      go_simp
      exact kb.out w'
    · refine er_q ?vn20 ?hn20 ?kn20 ?gn20 ?_
      case hn20 => exact rfl
      case vn20 => exact (fun R => .pointer (some ⟨g0, 2, none⟩))
      case kn20 => exact (fun R => rfl)
      case gn20 => exact gd_none rfl
      intro R s w' hT hs hw ha
      go_simp
    · refine er_q ?vn21 ?hn21 ?kn21 ?gn21 ?_
      case hn21 => exact rfl
      case vn21 => exact (fun R => .func (.func 52) #[] #[])
      case kn21 => exact (fun R => rfl)
      case gn21 => exact gd_none rfl
      intro R s w' hT hs hw ha
      have cc := ((show Blk w' g0 _ sgN from P3.sameE hw (fun h => h) (by intro c hc; simp at hc; (try subst hc); (try simp only); omega)).cell 2).trans (show sgN[2]? = some (.func (.func 52) #[] #[]) from rfl)
      go_simp
    · refine er_q ?vn22 ?hn22 ?kn22 ?gn22 ?_
      case hn22 => exact rfl
      case vn22 => exact (fun R => .agg X)
      case kn22 => exact (fun R => rfl)
      case gn22 => exact gd_none rfl
      intro R s w' hT hs hw ha
      have L := ld_all (P4.sameE hw (fun h => h) (by intro c hc; simp at hc; (try subst hc); (try simp only); omega)) uMean rfl iMean hX.s
      generalize hA : putE _ _ _ _ _ _ _ = AA
      refine q_load rfl ?_ L
      subst hA
      kernel_rfl
    · refine er_ev (m := 0) ?hn23 ?gn23 ?_
      case hn23 => exact rfl
      case gn23 => exact gd_none rfl
      intro R w' hT hw
      go_simp
      refine (ke.out _).mono ?_
      rintro e w2 ⟨A1, k1, rfl, hO, hE⟩
      exact ⟨_, rfl, cs_ev hT hO hE⟩
    · refine er_so (c := 0) (Ty := ?Tn24) (p := ?pn24) (x := ?xn24) (g0 + 1 + 1) ?fn24 ?un24 ?vn24 ?hn24 ?on24 ?kn24 ?ln24 ?gn24 ?dn24 ?en24 ?_
      case hn24 => exact rfl
      case on24 => exact rfl
      case fn24 => exact (fun R => (.cells Y 27 (0, 0)))
      case un24 => exact (fun R => .pointer (some ⟨g0 + 1 + 1, 0, none⟩))
      case vn24 => exact (fun R => .agg Y)
      case kn24 => exact (fun R => rfl)
      case ln24 => exact rfl
      case gn24 => exact gd_none rfl
      case dn24 =>
        intro R
        kernel_rfl
      case en24 =>
        intro R
        kernel_rfl
      intro R s ρ w hT hs hp hx hz
      refine ⟨store_rowN (g := (g0 + 1 + 1)) rfl hp hx (hz.trans P6) iMean (rfl) (sY) (oY), fun w1 hF => cs_filled hT hF P6_lo (hz.trans P6) (by decide)⟩
    · refine er_q ?vn25 ?hn25 ?kn25 ?gn25 ?_
      case hn25 => exact rfl
      case vn25 => exact (fun R => (R 0))
      case kn25 => exact (fun R => rfl)
      case gn25 => exact gd_none rfl
      intro R s w' hT hs hw ha
      go_simp
  case end25 =>
   intro sI R G w26 hI
   have hS := hI.same
   have hTT := hI.holds
   have hz0 := EE.out.size
   have hs0 : 0 < sI := (hI.stage 8 (show 8 < 11 by decide) 0 rfl).1 (List.mem_range.2 (show 8 < 11 by decide))
   obtain ⟨A1, k1, e1, O1⟩ := hTT.2 hs0
   replace P3 := P3.sameE hS (fun h => h) (by intro c hc; simp at hc; (try subst hc); (try simp only); omega)
   replace P4 := P4.sameE hS (fun h => h) (by intro c hc; simp at hc; (try subst hc); (try simp only); omega)
   replace P8 := P8.sameE hS (fun h => h) (by intro c hc; simp at hc; (try subst hc); (try simp only); omega)
   replace P6 : Blk w26 (g0 + 1 + 1) 27 Y := hI.olds' 9 (List.mem_range.2 (show 9 < 11 by decide)) 0 rfl
   replace EE := hide hTT.1
   clear hS hz0 hTT hI P3_lt P4_lt P6_lt P8_lt
   generalize hF : putE _ _ _ _ _ _ _ = FF
   have hF2 : FF = { tmps := #[.agg sgN, .agg X, .int .i64 v, .pointer (some ⟨g0, 0, none⟩), .pointer (some ⟨g0 + 1, 0, none⟩), undef, .pointer (some ⟨g0 + 1 + 1, 0, none⟩), (R 0), .pointer (some ⟨g8, 0, none⟩), .bool false, .tuple #[.agg z9m, .bool false], .pointer (some ⟨g0, 0, none⟩), .func (.func 62) #[] #[], .agg X, .int .i64 v, .tuple #[.agg z9m, .bool false], .agg z9m, .bool false, .bool false, undef, .pointer (some ⟨g0, 1, none⟩), .func (.func 55) #[] #[], .agg X, .int .i64 v, .agg Y, .pointer (some ⟨g0, 2, none⟩), .func (.func 52) #[] #[], .agg X, (R 0)], defers := [] } := by subst hF; kernel_rfl
   clear hF
   subst hF2
   (try simp only [e1])
   have O1 := hide O1
   go_wp2_with fail
   exact bodyPost_ret (res2 (p := 6) (u := 7) (ty := 27) rfl _ _ _ 27 Y _ rfl P6 uMean rfl (by rw [sY]; exact iMean)) rfl ⟨A1, k1, by kernel_rfl, O1.out, EE.out⟩
end
section
open Go Go.RowKit Go.Sort
def stN (eps : Int) : Option Mn → Array Value
 | none => meC eps 0 0 0 0
 | some (n, lo, hi, sm) => meC eps n lo hi sm
def coN (s : Mn) : Int × Int := ((s.1 : Int), s.2.2.2 / (s.1 : Int))
theorem row_N (eps : Int) (s : Option Mn) : ∃ c lo hi z : Int, stN eps s = meC eps c lo hi z := by
 rcases s with _ | ⟨n, lo, hi, sm⟩
 · exact ⟨0, 0, 0, 0, rfl⟩
 · exact ⟨n, lo, hi, sm, rfl⟩
theorem i64_0 : I64 0 := ⟨by omega, by omega⟩
theorem okV_f {eps : Int} {n : Nat} {lo hi sm : Int} (h : OkV eps (some (n, lo, hi, sm))) : F256 sm := by
 have := sum_size h
 unfold F256
 exact Nat.lt_trans this (by decide)
theorem okV_n {eps : Int} {n : Nat} {lo hi sm : Int} (h : OkV eps (some (n, lo, hi, sm))) : I64 (n : Int) ∧ 1 ≤ (n : Int) := by
 obtain ⟨h1, h2, _⟩ := h
 exact ⟨⟨by omega, by omega⟩, by omega⟩
theorem p_avgV {eps : Int} {n : Nat} {lo hi sm : Int} (h : OkV eps (some (n, lo, hi, sm))) (W : World) : Calls Try.prog 67 #[.agg (meC eps n lo hi sm)] W (Ret (.int .i64 (sm / (n : Int))) W) :=
 p_avgM eps n lo hi sm (okV_n h).1 (okV_n h).2 h.2.2.1 h.2.2.2.1 (okV_f h) h.2.2.2.2.1 h.2.2.2.2.2.1 h.2.2.2.2.2.2.1 W
theorem ne_0 {n : Nat} (h : 1 ≤ (n : Int)) : ((n : Int) == 0) = false := by rw [beq_eq_false_iff_ne]; omega
theorem p_endV (eps : Int) (s : Option Mn) (hs : OkV eps s) (W : World) : Calls Try.prog 52 #[.agg (stN eps s)] W (CoGet ((endN s).map coN) W) := by
 rcases s with _ | ⟨n, lo, hi, sm⟩
 · exact p_end0 _ _ eps 0 0 0 (meX_of _ _ _ _ _) (wC_size 0) (wC_onee 0) rfl W
 · exact p_endYe _ _ eps n lo hi (meX_of _ _ _ _ _) (sm / (n : Int)) (wC_size sm) (wC_onee sm) (ne_0 (okV_n hs).2) (okV_n hs).1 (mean_i64 hs) (hide fun w => p_avgV hs w) W
theorem more_b {eps : Int} {n : Nat} {lo hi sm v : Int} (h : OkV eps (some (n, lo, hi, sm))) (hv : I64 v) (hc : n < 1073741824) : I64 ((n : Int) + 1) ∧ 1 ≤ (n : Int) + 1 ∧ I64 (min lo v) ∧ I64 (max hi v) ∧ F256 (sm + v) ∧ min lo v ≤ max hi v ∧ ((n : Int) + 1 - 1) * min lo v + max hi v ≤ sm + v ∧ sm + v ≤ ((n : Int) + 1 - 1) * max hi v + min lo v := by
 have hs := sum_size h
 obtain ⟨h1, h2, ⟨h3, h3'⟩, ⟨h4, h4'⟩, h5, h6, h7, h8⟩ := h
 have := more_sum (v := v) h1 h5 h6 h7
 obtain ⟨v1, v2⟩ := hv
 refine ⟨⟨by omega, by omega⟩, by omega, ⟨by omega, by omega⟩, ⟨by omega, by omega⟩, ?_, by omega, this.1, this.2⟩
 unfold F256
 omega
set_option maxHeartbeats 1600000 in
theorem p_segS (eps : Int) (s : Option Mn) (v : Int) (he : Tol eps) (hs : OkV eps s) (hc : cntN s < 1073741824) (hv : I64 v) (W : World) :
   Calls Try.prog 51 #[.agg sgN, .agg (stN eps s), .int .i64 v] W (CoPair (stN eps (stepN eps s v).1) ((stepN eps s v).2.map coN) W) := by
 have ke := hide fun w => p_endV eps s hs w
 rcases s with _ | ⟨n, lo, hi, sm⟩
 · exact p_segN _ _ eps 0 0 0 (meX_of _ _ _ _ _) (meC eps 1 v v v) v [] rfl (meC_one _ _ _ _ _) (hide fun w => p_ext0e _ eps 0 0 0 0 (meX_of _ _ _ _ _) v rfl w) (hide fun w => p_beginN _ _ eps 0 0 0 v (meX_of _ _ _ _ _) hv w) ke W
 · have hc : n < 1073741824 := hc
   obtain ⟨b1, b2, b3, b4, b5, b6, b7, b8⟩ := more_b hs hv hc
   have k1 := hide fun w => pw_ofi hv w
   have k2 := hide fun w => pw_add (okV_f hs) (f64 hv) rfl b5 w
   have kn := fun w => p_neaM eps ((n : Int) + 1) (min lo v) (max hi v) (sm + v) he b1 b2 b3 b4 b5 b6 b7 b8 w
   rw [← Bool.decide_and] at kn
   have wr : IntKind.i64.wrap ((n : Int) + 1) = (n : Int) + 1 := by rw [IntKind.wrap_i64]; omega
   by_cases hf : FitN eps (moreN (n, lo, hi, sm) v)
   · simp only [stepN, if_pos hf]
     rw [decide_eq_true (show (sm + v) / ((n : Int) + 1) - min lo v ≤ eps ∧ max hi v - (sm + v) / ((n : Int) + 1) ≤ eps from hf)] at kn
     exact p_segY _ _ eps n lo hi (meX_of _ _ _ _ _) (meC eps ((n : Int) + 1) (min lo v) (max hi v) (sm + v)) v rfl (meC_one _ _ _ _ _) (hide fun w => p_extYe _ eps n lo hi sm (meX_of _ _ _ _ _) v (sm + v) (ne_0 (okV_n hs).2) wr k1 k2 (hide kn) w) W
   · simp only [stepN, if_neg hf]
     rw [decide_eq_false (show ¬ ((sm + v) / ((n : Int) + 1) - min lo v ≤ eps ∧ max hi v - (sm + v) / ((n : Int) + 1) ≤ eps) from hf)] at kn
     exact p_segN _ _ eps n lo hi (meX_of _ _ _ _ _) (meC eps 1 v v v) v _ rfl (meC_one _ _ _ _ _) (hide fun w => p_extNe _ eps n lo hi sm (meX_of _ _ _ _ _) v (sm + v) (ne_0 (okV_n hs).2) wr k1 k2 (hide kn) w) (hide fun w => p_beginN _ _ eps n lo hi v (meX_of _ _ _ _ _) hv w) ke W
end
end Go.Proofs.Ytlfmeiejocpnfaa
