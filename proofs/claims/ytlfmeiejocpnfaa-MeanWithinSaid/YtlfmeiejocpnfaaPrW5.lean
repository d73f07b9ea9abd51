/- Part 5 of what these claims stand on: contracts of the program's and the reference's functions, and plain facts. Conditions: each states its own. -/
import Derived.Test.YtlfmeiejocpnfaaPrW4
import Derived.Deep.RegionLaw
namespace Go.Proofs.Ytlfmeiejocpnfaa
set_option linter.unusedVariables false
set_option linter.unusedSimpArgs false
section
open Go Go.RowKit Go.Sort
def allNF (eps : Int) (l : List Int) : List (Int × Int) × Nat := if tolB eps = true then (if 1073741824 < l.length then ([], 3) else ((allN eps l).map coN, 0)) else ([], 9)
theorem stepN_le (eps : Int) (s : Option Mn) (v : Int) : (stepN eps s v).2.length ≤ 1 := by
 rcases s with _ | s
 · simp [stepN]
 · simp only [stepN]; split <;> simp
theorem doneN_le (eps : Int) : ∀ (l : List Int) (s : Option Mn), (doneN eps s l).length ≤ l.length
 | [], _ => by simp [doneN]
 | v :: l, s => by
   have h1 := doneN_le eps l (stepN eps s v).1
   have h2 := stepN_le eps s v
   simp only [doneN, List.length_append, List.length_cons]
   omega
theorem endN_le (s : Option Mn) : (endN s).length ≤ 1 := by rcases s with _ | s <;> simp [endN]
theorem stN_size (eps : Int) (s : Option Mn) : (stN eps s).size = 9 := by rcases s with _ | ⟨n, lo, hi, sm⟩ <;> rfl
theorem state_atV {eps : Int} (he : Tol eps) {l : List Int} (ho : ∀ v ∈ l, I64 v) (hn : l.length ≤ 1073741824) (j : Nat) (hj : j ≤ l.length) : OkV eps (stateN eps none (l.take j)) ∧ cntN (stateN eps none (l.take j)) ≤ j :=
 ⟨okN_okV (state_atN he ho hn j hj).1, (state_atN he ho hn j hj).2⟩
theorem blk9 {w : World} {g : Nat} {t c lo hi z t' c' lo' hi' z' : Int} (h : Blk w g 27 (meC t c lo hi z)) : Blk (((((((((w.setCell ⟨g, 0, none⟩ (.int .i64 t')).setCell ⟨g, 1, none⟩ (.int .i64 c')).setCell ⟨g, 2, none⟩ (.int .i64 lo')).setCell ⟨g, 3, none⟩ (.int .i64 hi')).setCell ⟨g, 4, none⟩ (.bool (sg z'))).setCell ⟨g, 5, none⟩ (.int .u64 (l0 z' : Int))).setCell ⟨g, 6, none⟩ (.int .u64 (l1 z' : Int))).setCell ⟨g, 7, none⟩ (.int .u64 (l2 z' : Int))).setCell ⟨g, 8, none⟩ (.int .u64 (l3 z' : Int))) g 27 (meC t' c' lo' hi' z') := by
 have k := (((((((((h).set_ 0 (.int .i64 t')).set_ 1 (.int .i64 c')).set_ 2 (.int .i64 lo')).set_ 3 (.int .i64 hi')).set_ 4 (.bool (sg z'))).set_ 5 (.int .u64 (l0 z' : Int))).set_ 6 (.int .u64 (l1 z' : Int))).set_ 7 (.int .u64 (l2 z' : Int))).set_ 8 (.int .u64 (l3 z' : Int))
 have e : ((((((((((meC t c lo hi z)).setIfInBounds 0 (.int .i64 t')).setIfInBounds 1 (.int .i64 c')).setIfInBounds 2 (.int .i64 lo')).setIfInBounds 3 (.int .i64 hi')).setIfInBounds 4 (.bool (sg z'))).setIfInBounds 5 (.int .u64 (l0 z' : Int))).setIfInBounds 6 (.int .u64 (l1 z' : Int))).setIfInBounds 7 (.int .u64 (l2 z' : Int))).setIfInBounds 8 (.int .u64 (l3 z' : Int)) = meC t' c' lo' hi' z' := by kernel_rfl
 rw [e] at k
 exact k
theorem upd9 (w : World) (g : Nat) (t c lo hi z : Int) : Upd g w (((((((((w.setCell ⟨g, 0, none⟩ (.int .i64 t)).setCell ⟨g, 1, none⟩ (.int .i64 c)).setCell ⟨g, 2, none⟩ (.int .i64 lo)).setCell ⟨g, 3, none⟩ (.int .i64 hi)).setCell ⟨g, 4, none⟩ (.bool (sg z))).setCell ⟨g, 5, none⟩ (.int .u64 (l0 z : Int))).setCell ⟨g, 6, none⟩ (.int .u64 (l1 z : Int))).setCell ⟨g, 7, none⟩ (.int .u64 (l2 z : Int))).setCell ⟨g, 8, none⟩ (.int .u64 (l3 z : Int))) := ((((((((((Upd.refl g w)).set 0 (.int .i64 t)).set 1 (.int .i64 c)).set 2 (.int .i64 lo)).set 3 (.int .i64 hi)).set 4 (.bool (sg z))).set 5 (.int .u64 (l0 z : Int))).set 6 (.int .u64 (l1 z : Int))).set 7 (.int .u64 (l2 z : Int))).set 8 (.int .u64 (l3 z : Int))
end
section
open Go Go.RowKit Go.Sort
set_option maxHeartbeats 6400000 in
set_option maxRecDepth 100000 in
theorem p_segAll (A : Option Addr) (n c : Nat) (l : List Int) (eps : Int) (W : World) (he : Tol eps) (hl : TimesAt W A l) (hn : l.length = n) (hn2 : n ≤ 1073741824) : Calls Try.prog 43 #[.agg sgN, .agg (meC eps 0 0 0 0), .slice A n c] W (CoGet ((allN eps l).map coN) W) := by
 have hen : ∀ a w, (callFunc 52 a).run Try.prog w = .ok (.enter 52 a) w := fun a w => by go_simp
 have P4 := Blk.new (W.alloc (.cells sgN 86)) 27 (meC eps 0 0 0 0)
 have P3 := (Blk.new W 86 sgN).alloc (.cells (meC eps 0 0 0 0) 27)
 rw [alloc_size] at P4
 have EE := (ext_alloc W (.cells sgN 86)).trans (ext_alloc _ (.cells (meC eps 0 0 0 0) 27))
 have hgs : W.heap.size + 2 = ((W.alloc (.cells sgN 86)).alloc (.cells (meC eps 0 0 0 0) 27)).heap.size := by rw [alloc_size, alloc_size]
 obtain ⟨g, hg⟩ : ∃ g, W.heap.size = g := ⟨_, rfl⟩
 obtain ⟨w2, hw2⟩ : ∃ w, (W.alloc (.cells sgN 86)).alloc (.cells (meC eps 0 0 0 0) 27) = w := ⟨_, rfl⟩
 rw [hw2] at P3 P4 EE hgs
 rw [hg] at P3 P4 hgs
 have P3 := hide P3
 have P4 : Hid (Blk w2 (g + 1) 27 (stN eps (stateN eps none (l.take 0)))) := hide P4
 have EE := hide EE
 have HW := hide hw2
 have Hg := hide hg
 have Hl := hide hl
 have Hn := hide hn
 have He := hide he
 have HI := hide hl.1
 clear hl hn he hw2 hg
 go_enter Try.func43, Try.ntmps43
 go_upto_region 1 with fail
 rw [HW.out, Hg.out]
 clear HW
 go_upto_region 3 with fail
 go_loopw [7, 9, 10, 11, 14] (fun ov _ _ _ iv wr => ∃ i : Nat, i ≤ n ∧ iv = .int .i64 (i : Int) ∧ Hid (OwnC (g + 2) wr ov ((doneN eps none (l.take i)).map coN)) ∧ Hid (Blk wr (g + 1) 27 (stN eps (stateN eps none (l.take i)))) ∧ Hid (Blk wr g 86 sgN) ∧ Hid (Ext W wr) ∧ g + 2 ≤ wr.heap.size) (fun _ _ _ _ iv _ => n - (intOf iv).toNat)
 case atStart => exact ⟨0, by omega, rfl, hide (OwnC.nil_ _ _), P4, P3, EE, by omega⟩
 case round =>
   clear P3 P4 EE hgs
   obtain ⟨i, hi, rfl, HO, HP, HS, HE, hgr⟩ := hrel
   by_cases hlt : i < n
   · have d1 : decide ((i : Int) < (n : Int)) = true := decide_eq_true (by omega)
     have him : i < l.length := by rw [Hn.out]; exact hlt
     obtain ⟨bm, om, rfl, _, hc⟩ := (Hl.out.ext HE.out).2.2 (by omega)
     have ct := hc i him
     have ix := fun w => idxT bm om n c i hlt w
     have hv : l[i]? = some (l.getD i 0) := by rw [List.getElem?_eq_getElem him]; simp [List.getD_eq_getElem?_getD, him]
     have iv := HI.out.get i
     obtain ⟨hdone, hst⟩ := done_snocN eps hv
     obtain ⟨hok, hcnt⟩ := state_atV He.out HI.out (by rw [Hn.out]; exact hn2) i (by omega)
     have hlen := doneN_le eps (l.take i) none
     rw [List.length_take] at hlen
     obtain ⟨v, hvv⟩ : ∃ v, l.getD i 0 = v := ⟨_, rfl⟩
     rw [hvv] at ct hv iv hdone hst
     have KS := fun w => p_segS eps (stateN eps none (l.take i)) v He.out hok (by omega) iv w
     have ll := stepN_le eps (stateN eps none (l.take i)) v
     obtain ⟨s, hs⟩ : ∃ s, stateN eps none (l.take i) = s := ⟨_, rfl⟩
     rw [hs] at KS hst HP ll hdone
     rw [← hst] at KS
     obtain ⟨T, hT⟩ : ∃ T, (doneN eps none (l.take i)).map coN = T := ⟨_, rfl⟩
     obtain ⟨q, hq⟩ : ∃ q, (stepN eps s v).2.map coN = q := ⟨_, rfl⟩
     have hdm : (doneN eps none (l.take (i + 1))).map coN = T ++ q := by rw [hdone, List.map_append, hT, hq]
     have hTl : T.length ≤ i := by rw [← hT, List.length_map]; omega
     have hql : q.length ≤ 1 := by rw [← hq, List.length_map]; exact ll
     rw [hT] at HO
     rw [hq] at KS
     obtain ⟨c0, lo0, hi0, z0, hr0⟩ := row_N eps s
     obtain ⟨c1, lo1, hi1, z1, hr1⟩ := row_N eps (stateN eps none (l.take (i + 1)))
     rw [hr0] at KS HP
     rw [hr1] at KS
     have Hr1 := hide hr1
     have Hdm := hide hdm
     have KS : Hid (∀ w, Calls Try.prog 51 #[.agg sgN, .agg (meC eps c0 lo0 hi0 z0), .int .i64 v] w (CoPair #[.int .i64 eps, .int .i64 c1, .int .i64 lo1, .int .i64 hi1, .bool (sg z1), .int .u64 (l0 z1 : Int), .int .u64 (l1 z1 : Int), .int .u64 (l2 z1 : Int), .int .u64 (l3 z1 : Int)] q w)) := hide KS
     have hle : T.length + q.length ≤ 8796093022208 := by omega
     have ld3 := ld_all HS.out uSgn rfl iSgn rfl
     have ld4 := ld_all HP.out uMean rfl iMean (meX_of _ _ _ _ _).s
     clear hc hvv hv hdone hst hok hcnt hlen ll hs hT hq hr0 hr1 hdm
     go_upto_region 6 with (first
       | (refine wl_load (by kernel_rfl) rfl rfl ld3 ?_)
       | (refine wl_load (by kernel_rfl) rfl rfl ld4 ?_)
       | (go_at_call 51; (with_reducible refine (KS.out _).mono ?_); rintro e w6 ⟨A6, k6, rfl, hO6, hE6⟩))
     have E7 := hE6.trans (ext_alloc w6 (.cells #[.int .i64 eps, .int .i64 c1, .int .i64 lo1, .int .i64 hi1, .bool (sg z1), .int .u64 (l0 z1 : Int), .int .u64 (l1 z1 : Int), .int .u64 (l2 z1 : Int), .int .u64 (l3 z1 : Int)] 27))
     have P10 := Blk.new w6 27 #[.int .i64 eps, .int .i64 c1, .int .i64 lo1, .int .i64 hi1, .bool (sg z1), .int .u64 (l0 z1 : Int), .int .u64 (l1 z1 : Int), .int .u64 (l2 z1 : Int), .int .u64 (l3 z1 : Int)]
     have hn10 : w6.heap.size < (w6.alloc (.cells #[.int .i64 eps, .int .i64 c1, .int .i64 lo1, .int .i64 hi1, .bool (sg z1), .int .u64 (l0 z1 : Int), .int .u64 (l1 z1 : Int), .int .u64 (l2 z1 : Int), .int .u64 (l3 z1 : Int)] 27)).heap.size := by rw [alloc_size]; exact Nat.lt_succ_self _
     have O7 := HO.out.ext E7
     have Q7 := (hO6.alloc (.cells #[.int .i64 eps, .int .i64 c1, .int .i64 lo1, .int .i64 hi1, .bool (sg z1), .int .u64 (l0 z1 : Int), .int .u64 (l1 z1 : Int), .int .u64 (l2 z1 : Int), .int .u64 (l3 z1 : Int)] 27))
     have hz6 := hE6.size
     obtain ⟨g10, hg10⟩ : ∃ k, w6.heap.size = k := ⟨_, rfl⟩
     obtain ⟨w7, hw7⟩ : ∃ w, w6.alloc (.cells #[.int .i64 eps, .int .i64 c1, .int .i64 lo1, .int .i64 hi1, .bool (sg z1), .int .u64 (l0 z1 : Int), .int .u64 (l1 z1 : Int), .int .u64 (l2 z1 : Int), .int .u64 (l3 z1 : Int)] 27) = w := ⟨_, rfl⟩
     rw [hw7] at E7 O7 Q7 hn10
     rw [hw7, hg10] at P10
     rw [hg10] at hz6 hn10
     rw [hw7, hg10]
     have S7 := hide (HS.out.ext E7)
     have P7 : Hid (Blk w7 (g + 1) 27 (meC eps c0 lo0 hi0 z0)) := hide (HP.out.ext E7)
     have P10 : Hid (Blk w7 g10 27 (meC eps c1 lo1 hi1 z1)) := hide P10
     have O7 := hide O7
     have Q7 := hide Q7
     have E8 := hide (HE.out.trans E7)
     have hz7 : g + 2 ≤ w7.heap.size := by omega
     have hob : ∀ k, Value.ownBlock _ = some k → g + 2 ≤ k ∧ k < g10 := fun k hk => by have := HO.out.1.lt k hk; exact ⟨this.1, Nat.lt_of_lt_of_le this.2 hz6⟩
     clear hw7 hg10 hE6 hO6 ld3 ld4 KS HO HP HS HE ct E7
     have s0 : w7.drew.cell? ⟨g + 1, 0, none⟩ = some (.int .i64 eps) := P7.out.cell 0
     have s1 : w7.drew.cell? ⟨g + 1, 1, none⟩ = some (.int .i64 c0) := P7.out.cell 1
     have s2 : w7.drew.cell? ⟨g + 1, 2, none⟩ = some (.int .i64 lo0) := P7.out.cell 2
     have s3 : w7.drew.cell? ⟨g + 1, 3, none⟩ = some (.int .i64 hi0) := P7.out.cell 3
     have s4 : w7.drew.cell? ⟨g + 1, 4, none⟩ = some (.bool (sg z0)) := P7.out.cell 4
     have s5 : w7.drew.cell? ⟨g + 1, 5, none⟩ = some (.int .u64 (l0 z0 : Int)) := P7.out.cell 5
     have s6 : w7.drew.cell? ⟨g + 1, 6, none⟩ = some (.int .u64 (l1 z0 : Int)) := P7.out.cell 6
     have s7 : w7.drew.cell? ⟨g + 1, 7, none⟩ = some (.int .u64 (l2 z0 : Int)) := P7.out.cell 7
     have s8 : w7.drew.cell? ⟨g + 1, 8, none⟩ = some (.int .u64 (l3 z0 : Int)) := P7.out.cell 8
     have f0 := P7.out.frozen 0
     have f1 := P7.out.frozen 1
     have f2 := P7.out.frozen 2
     have f3 := P7.out.frozen 3
     have f4 := P7.out.frozen 4
     have f5 := P7.out.frozen 5
     have f6 := P7.out.frozen 6
     have f7 := P7.out.frozen 7
     have f8 := P7.out.frozen 8
     have e0 : w7.drew.cell? ⟨g10, 0, none⟩ = some (.int .i64 eps) := P10.out.cell 0
     have e1 : w7.drew.cell? ⟨g10, 1, none⟩ = some (.int .i64 c1) := P10.out.cell 1
     have e2 : w7.drew.cell? ⟨g10, 2, none⟩ = some (.int .i64 lo1) := P10.out.cell 2
     have e3 : w7.drew.cell? ⟨g10, 3, none⟩ = some (.int .i64 hi1) := P10.out.cell 3
     have e4 : w7.drew.cell? ⟨g10, 4, none⟩ = some (.bool (sg z1)) := P10.out.cell 4
     have e5 : w7.drew.cell? ⟨g10, 5, none⟩ = some (.int .u64 (l0 z1 : Int)) := P10.out.cell 5
     have e6 : w7.drew.cell? ⟨g10, 6, none⟩ = some (.int .u64 (l1 z1 : Int)) := P10.out.cell 6
     have e7 : w7.drew.cell? ⟨g10, 7, none⟩ = some (.int .u64 (l2 z1 : Int)) := P10.out.cell 7
     have e8 : w7.drew.cell? ⟨g10, 8, none⟩ = some (.int .u64 (l3 z1 : Int)) := P10.out.cell 8
     go_region_law (refine step_appendC rfl (.tmp 26) (.tmp 27) rfl (g + 2) _ T q rfl A6 _ k6 rfl O7.out.drew (own_co Q7.out.drew) rfl hle hz7 ?_; intro v10 w10 hO10 hG10 hA10; have B10 : Below (g + 2) w7.drew w10 := (Below.refl (g + 2) w7.drew).grown hG10 hz7 (fun k hk => (hob k hk).1); have R7 : Hid (Blk w10 (g + 1) 27 (meC eps c0 lo0 hi0 z0)) := hide ((B10.block (g + 1) (Nat.lt_succ_self (g + 1))).trans P7.out); have R3 : Hid (Blk w10 g 86 sgN) := hide ((B10.block g (by omega)).trans S7.out); have R10 : Hid (Blk w10 g10 27 (meC eps c1 lo1 hi1 z1)) := hide ((hG10.block g10 hn10 (fun e => by have := hob g10 e.symm; omega)).trans P10.out); have E10 := hide (below_grownC (B := g + 2) (E8.out.trans (ext_drew _)) (by rw [Hg.out]; omega) O7.out.drew hG10); have O10 := hide hO10; have r0 : w10.cell? ⟨g + 1, 0, none⟩ = some (.int .i64 eps) := R7.out.cell 0; have r1 : w10.cell? ⟨g + 1, 1, none⟩ = some (.int .i64 c0) := R7.out.cell 1; have r2 : w10.cell? ⟨g + 1, 2, none⟩ = some (.int .i64 lo0) := R7.out.cell 2; have r3 : w10.cell? ⟨g + 1, 3, none⟩ = some (.int .i64 hi0) := R7.out.cell 3; have r4 : w10.cell? ⟨g + 1, 4, none⟩ = some (.bool (sg z0)) := R7.out.cell 4; have r5 : w10.cell? ⟨g + 1, 5, none⟩ = some (.int .u64 (l0 z0 : Int)) := R7.out.cell 5; have r6 : w10.cell? ⟨g + 1, 6, none⟩ = some (.int .u64 (l1 z0 : Int)) := R7.out.cell 6; have r7 : w10.cell? ⟨g + 1, 7, none⟩ = some (.int .u64 (l2 z0 : Int)) := R7.out.cell 7; have r8 : w10.cell? ⟨g + 1, 8, none⟩ = some (.int .u64 (l3 z0 : Int)) := R7.out.cell 8; have h0 := R7.out.frozen 0; have h1 := R7.out.frozen 1; have h2 := R7.out.frozen 2; have h3 := R7.out.frozen 3; have h4 := R7.out.frozen 4; have h5 := R7.out.frozen 5; have h6 := R7.out.frozen 6; have h7 := R7.out.frozen 7; have h8 := R7.out.frozen 8; have x0 : w10.cell? ⟨g10, 0, none⟩ = some (.int .i64 eps) := R10.out.cell 0; have x1 : w10.cell? ⟨g10, 1, none⟩ = some (.int .i64 c1) := R10.out.cell 1; have x2 : w10.cell? ⟨g10, 2, none⟩ = some (.int .i64 lo1) := R10.out.cell 2; have x3 : w10.cell? ⟨g10, 3, none⟩ = some (.int .i64 hi1) := R10.out.cell 3; have x4 : w10.cell? ⟨g10, 4, none⟩ = some (.bool (sg z1)) := R10.out.cell 4; have x5 : w10.cell? ⟨g10, 5, none⟩ = some (.int .u64 (l0 z1 : Int)) := R10.out.cell 5; have x6 : w10.cell? ⟨g10, 6, none⟩ = some (.int .u64 (l1 z1 : Int)) := R10.out.cell 6; have x7 : w10.cell? ⟨g10, 7, none⟩ = some (.int .u64 (l2 z1 : Int)) := R10.out.cell 7; have x8 : w10.cell? ⟨g10, 8, none⟩ = some (.int .u64 (l3 z1 : Int)) := R10.out.cell 8; clear hO10 hG10 hA10 B10)
     all_goals
       have U9 := upd9 w10 (g + 1) eps c1 lo1 hi1 z1
       have P9 := blk9 (t' := eps) (c' := c1) (lo' := lo1) (hi' := hi1) (z' := z1) R7.out
       have O9 := O10.out.upd U9 (Nat.lt_succ_self (g + 1))
       have S9 := hide ((U9.2.2.2.2 g R3.out.lt (by omega)).trans R3.out)
       have E9 := U9.ext E10.out (by rw [Hg.out]; omega)
       have hz9 : g + 2 ≤ w10.heap.size := R7.out.lt
       have hz9 := Nat.le_trans hz9 U9.2.2.2.1
       obtain ⟨w9, hw9⟩ : ∃ w, (((((((((w10.setCell ⟨g + 1, 0, none⟩ (.int .i64 eps)).setCell ⟨g + 1, 1, none⟩ (.int .i64 c1)).setCell ⟨g + 1, 2, none⟩ (.int .i64 lo1)).setCell ⟨g + 1, 3, none⟩ (.int .i64 hi1)).setCell ⟨g + 1, 4, none⟩ (.bool (sg z1))).setCell ⟨g + 1, 5, none⟩ (.int .u64 (l0 z1 : Int))).setCell ⟨g + 1, 6, none⟩ (.int .u64 (l1 z1 : Int))).setCell ⟨g + 1, 7, none⟩ (.int .u64 (l2 z1 : Int))).setCell ⟨g + 1, 8, none⟩ (.int .u64 (l3 z1 : Int))) = w := ⟨_, rfl⟩
       rw [hw9] at P9 O9 S9 E9 hz9 ⊢
       have P9 : Hid (Blk w9 (g + 1) 27 (stN eps (stateN eps none (l.take (i + 1))))) := by show Blk _ _ _ _; rw [Hr1.out]; exact P9
       have O9 : Hid (OwnC (g + 2) w9 v10 ((doneN eps none (l.take (i + 1))).map coN)) := by show OwnC _ _ _ _; rw [Hdm.out]; exact O9
       have S9 : Hid (Blk w9 g 86 sgN) := S9
       have E9 := hide E9
       clear hw9 U9 R7 R3 R10 O10 E10 P7 P10 S7 O7 Q7 E8 s0 s1 s2 s3 s4 s5 s6 s7 s8 f0 f1 f2 f3 f4 f5 f6 f7 f8 e0 e1 e2 e3 e4 e5 e6 e7 e8 r0 r1 r2 r3 r4 r5 r6 r7 r8 h0 h1 h2 h3 h4 h5 h6 h7 h8 x0 x1 x2 x3 x4 x5 x6 x7 x8 Hr1 Hdm
       go_wp2_with fail
       go_roundw
       case rel => exact ⟨i + 1, by omega, by go_num, O9, P9, S9, E9, hz9⟩
       case measure => simp [intOf]; omega
   · obtain rfl : i = n := by omega
     have d1 : decide ((i : Int) < (i : Int)) = false := decide_eq_false (by omega)
     have hli : l.take i = l := List.take_of_length_le (by rw [Hn.out]; omega)
     rw [hli] at HO HP
     obtain ⟨hok, _⟩ := state_atV He.out HI.out (by rw [Hn.out]; exact hn2) l.length (by omega)
     rw [List.take_length] at hok
     have hdl := doneN_le eps l none
     have KF := fun w => p_endV eps (stateN eps none l) hok w
     have ld := ld_all HP.out uMean rfl iMean (stN_size _ _)
     have cf : wr.cell? ⟨g, 2, none⟩ = some (.func (.func 52) #[] #[]) := HS.out.cell 2
     have hel := endN_le (stateN eps none l)
     rw [← List.length_map (f := coN)] at hel
     have hal : (allN eps l).map coN = (doneN eps none l).map coN ++ (endN (stateN eps none l)).map coN := by unfold allN; rw [List.map_append]
     obtain ⟨q, hq⟩ : ∃ q, (endN (stateN eps none l)).map coN = q := ⟨_, rfl⟩
     obtain ⟨T, hT⟩ : ∃ T, (doneN eps none l).map coN = T := ⟨_, rfl⟩
     rw [hq] at KF hel
     rw [hT] at HO
     have hTl : T.length ≤ i := by have := Hn.out; rw [← hT, List.length_map]; omega
     rw [hq, hT] at hal
     have Hal := hide hal
     obtain ⟨X, hX⟩ : ∃ X, stN eps (stateN eps none l) = X := ⟨_, rfl⟩
     rw [hX] at KF ld HP
     have KF := hide KF
     have hle : T.length + q.length ≤ 8796093022208 := by omega
     clear hok hdl hq hT hX hal hli
     go_wp2_with (refine wl_load (by kernel_rfl) rfl rfl ld ?_)
     (with_reducible refine (KF.out _).mono ?_)
     rintro e w6 ⟨A6, k6, rfl, hO6, hE6⟩
     have O6 := hide (HO.out.ext hE6)
     have Q6 := hide (own_co hO6)
     have E6 := hide (HE.out.trans hE6)
     have hz6 : g + 2 ≤ w6.heap.size := (Nat.le_trans hgr hE6.size)
     clear hO6 hE6 ld cf
     go_wp2_with (at_builtin; refine wl_appendC rfl (.tmp 30) (.tmp 34) rfl (g + 2) _ T q rfl O6.out A6 _ k6 rfl Q6.out rfl hle hz6 ?_; intro v10 w10 hO10 hG10 hA10; have E10 := hide (below_grownC (B := g + 2) E6.out (by rw [Hg.out]; omega) O6.out hG10); have O10 := hide hO10; clear hO10 hG10 hA10)
     obtain ⟨A1, c1, rfl, _, _, _⟩ := O10.out.at_
     go_ret
     rw [Hal.out]
     exact ⟨A1, c1, rfl, O10.out.less (by rw [Hg.out]; omega), E10.out⟩
theorem p_allTe (A : Option Addr) (n c : Nat) (eps : Int) (W : World) (ht : tolB eps = false) : Calls Try.prog 18 #[.slice A n c, .int .i64 eps] W (CoFin [] 9 W) := by
 have KS := hide fun w => p_startE_no eps w (hide fun w => pm_tol eps w false ht)
 unfold z9m at *
 clear ht
 go_enter Try.func18, Try.ntmps18
 go_wp2_with (go_at_call 9; (with_reducible refine (KS.out _).mono ?_); rintro e w1 ⟨rfl, hE⟩; have E1 := hide hE; clear hE)
 go_ret2
 exact ⟨none, 0, rfl, OwnC.nil_ _ _, E1.out.trans (ext_alloc _ _)⟩
theorem p_allLe (A : Option Addr) (n c : Nat) (eps : Int) (W : World) (ht : tolB eps = true) (hn : 1073741824 < n) : Calls Try.prog 18 #[.slice A n c, .int .i64 eps] W (CoFin [] 3 W) := by
 have KS := hide fun w => p_startE eps w (hide fun w => pm_tol eps w true ht)
 have d0 : decide ((1073741824 : Int) < (n : Int)) = true := decide_eq_true (by omega)
 unfold meC meR at *
 clear ht hn
 go_enter Try.func18, Try.ntmps18
 go_wp2_with (go_at_call 9; (with_reducible refine (KS.out _).mono ?_); rintro e w1 ⟨rfl, hE⟩; have E1 := hide hE; clear hE)
 go_ret2
 exact ⟨none, 0, rfl, OwnC.nil_ _ _, E1.out.trans (ext_alloc _ _)⟩
set_option maxHeartbeats 3200000 in
set_option maxRecDepth 100000 in
theorem p_allGe (A : Option Addr) (n c : Nat) (l : List Int) (eps : Int) (W : World) (he : Tol eps) (hl : TimesAt W A l) (hn : l.length = n) (hn2 : n ≤ 1073741824) : Calls Try.prog 18 #[.slice A n c, .int .i64 eps] W (CoFin ((allN eps l).map coN) 0 W) := by
 have KS := hide fun w => p_startE eps w (hide fun w => pm_tol eps w true (tolB_iff.2 he))
 have d0 : decide ((1073741824 : Int) < (n : Int)) = false := decide_eq_false (by omega)
 have KM := hide fun w => p_means w
 have KA : Hid (∀ w, Ext W w → Calls Try.prog 43 #[.agg sgN, .agg #[.int .i64 eps, .int .i64 0, .int .i64 0, .int .i64 0, .bool (sg 0), .int .u64 (l0 0 : Int), .int .u64 (l1 0 : Int), .int .u64 (l2 0 : Int), .int .u64 (l3 0 : Int)], .slice A n c] w (CoGet ((allN eps l).map coN) w)) := hide fun w h => p_segAll A n c l eps w he (hl.ext h) hn hn2
 obtain ⟨T, hT⟩ : ∃ T, (allN eps l).map coN = T := ⟨_, rfl⟩
 rw [hT] at KA ⊢
 clear hl hn he hT
 unfold meC meR at KS
 go_enter Try.func18, Try.ntmps18
 go_upto_region 6 with (go_at_call 9; (with_reducible refine (KS.out _).mono ?_); rintro e w1 ⟨rfl, hE⟩; have E1 := hide hE; clear hE)
 have P6 := Blk.new w1 27 #[.int .i64 eps, .int .i64 0, .int .i64 0, .int .i64 0, .bool (sg 0), .int .u64 (l0 0 : Int), .int .u64 (l1 0 : Int), .int .u64 (l2 0 : Int), .int .u64 (l3 0 : Int)]
 have E2 := hide (E1.out.trans (ext_alloc w1 (.cells #[.int .i64 eps, .int .i64 0, .int .i64 0, .int .i64 0, .bool (sg 0), .int .u64 (l0 0 : Int), .int .u64 (l1 0 : Int), .int .u64 (l2 0 : Int), .int .u64 (l3 0 : Int)] 27)))
 obtain ⟨g, hg⟩ : ∃ g, w1.heap.size = g := ⟨_, rfl⟩
 obtain ⟨w2, hw2⟩ : ∃ w, w1.alloc (.cells #[.int .i64 eps, .int .i64 0, .int .i64 0, .int .i64 0, .bool (sg 0), .int .u64 (l0 0 : Int), .int .u64 (l1 0 : Int), .int .u64 (l2 0 : Int), .int .u64 (l3 0 : Int)] 27) = w := ⟨_, rfl⟩
 rw [hw2, hg] at P6
 rw [hw2] at E2
 rw [hw2, hg]
 have P6 := hide P6
 clear hw2 hg E1
 have P6 : Hid (Blk w2 g 27 (meC eps 0 0 0 0)) := P6
 have s0 : w2.drew.cell? ⟨g, 0, none⟩ = some (.int .i64 eps) := P6.out.cell 0
 have s1 : w2.drew.cell? ⟨g, 1, none⟩ = some (.int .i64 0) := P6.out.cell 1
 have s2 : w2.drew.cell? ⟨g, 2, none⟩ = some (.int .i64 0) := P6.out.cell 2
 have s3 : w2.drew.cell? ⟨g, 3, none⟩ = some (.int .i64 0) := P6.out.cell 3
 have s4 : w2.drew.cell? ⟨g, 4, none⟩ = some (.bool (sg 0)) := P6.out.cell 4
 have s5 : w2.drew.cell? ⟨g, 5, none⟩ = some (.int .u64 (l0 0 : Int)) := P6.out.cell 5
 have s6 : w2.drew.cell? ⟨g, 6, none⟩ = some (.int .u64 (l1 0 : Int)) := P6.out.cell 6
 have s7 : w2.drew.cell? ⟨g, 7, none⟩ = some (.int .u64 (l2 0 : Int)) := P6.out.cell 7
 have s8 : w2.drew.cell? ⟨g, 8, none⟩ = some (.int .u64 (l3 0 : Int)) := P6.out.cell 8
 go_region_law (first
   | (go_simp; go_at_call 42; (with_reducible refine (KM.out _).mono ?_); rintro e w3 ⟨rfl, hE3⟩; have E3 := hide ((E2.out.trans (ext_drew w2)).trans hE3); have R6 : Hid (Blk w3 g 27 (meC eps 0 0 0 0)) := hide ((P6.out.ext (ext_drew w2)).ext hE3); have r0 : w3.cell? ⟨g, 0, none⟩ = some (.int .i64 eps) := R6.out.cell 0; have r1 : w3.cell? ⟨g, 1, none⟩ = some (.int .i64 0) := R6.out.cell 1; have r2 : w3.cell? ⟨g, 2, none⟩ = some (.int .i64 0) := R6.out.cell 2; have r3 : w3.cell? ⟨g, 3, none⟩ = some (.int .i64 0) := R6.out.cell 3; have r4 : w3.cell? ⟨g, 4, none⟩ = some (.bool (sg 0)) := R6.out.cell 4; have r5 : w3.cell? ⟨g, 5, none⟩ = some (.int .u64 (l0 0 : Int)) := R6.out.cell 5; have r6 : w3.cell? ⟨g, 6, none⟩ = some (.int .u64 (l1 0 : Int)) := R6.out.cell 6; have r7 : w3.cell? ⟨g, 7, none⟩ = some (.int .u64 (l2 0 : Int)) := R6.out.cell 7; have r8 : w3.cell? ⟨g, 8, none⟩ = some (.int .u64 (l3 0 : Int)) := R6.out.cell 8; have ka := hide (KA.out w3 E3.out); clear hE3)
   | (go_simp; go_at_call 43; (with_reducible refine (ka.out).mono ?_); rintro e w4 ⟨A4, k4, rfl, hO4, hE4⟩; have O4 := hide (hO4.less (B' := W.heap.size) E3.out.size); have E4 := hide (E3.out.trans hE4); clear hO4 hE4))
 all_goals go_wp2_with fail
 all_goals go_ret2
 all_goals exact ⟨A4, k4, rfl, O4.out, E4.out⟩
theorem p_allNF (A : Option Addr) (n c : Nat) (l : List Int) (eps : Int) (W : World) (hl : TimesAt W A l) (hn : l.length = n) : Calls Try.prog 18 #[.slice A n c, .int .i64 eps] W (CoFin (allNF eps l).1 (allNF eps l).2 W) := by
 unfold allNF
 cases ht : tolB eps with
 | false => exact p_allTe A n c eps W ht
 | true =>
   rw [if_pos rfl]
   by_cases h : 1073741824 < l.length
   · rw [if_pos h]
     exact p_allLe A n c eps W ht (by omega)
   · rw [if_neg h]
     exact p_allGe A n c l eps W (tolB_iff.1 ht) hl hn (by omega)
end
section
open Go Go.RowKit Go.Sort
theorem k16a : allNF 2 [0, 0, 0, 4] = ([(3, 0), (1, 4)], 0) := by decide +kernel
theorem k16b : allNF 2 [0, 3] = ([(2, 1)], 0) := by decide +kernel
set_option maxRecDepth 100000 in
theorem l_known16 (W : World) : Calls Try.prog 14 #[] W (Ret (.bool true) W) := by
 have E0 := hide (ext_alloc W (.cells #[.int .i64 0, .int .i64 0, .int .i64 0, .int .i64 4] 2))
 have H0 := new_atT W [0, 0, 0, 4] (by intro x hx; simp at hx; unfold I64; omega) (by simp) #[.int .i64 0, .int .i64 0, .int .i64 0, .int .i64 4] rfl
 have KA := p_allNF (some ⟨W.heap.size, 0, none⟩) 4 4 [0, 0, 0, 4] 2 _ H0 rfl
 rw [k16a] at KA
 have KA := hide KA
 have e1 := fun w => eqC2 3 0 3 0 w
 have e2 := fun w => eqC2 2 1 2 1 w
 clear H0
 go_enter Try.func14, Try.ntmps14
 go_upto_region 2 with (go_at_call 18; (with_reducible refine (KA.out).mono ?_); rintro e w1 ⟨A1, c1, rfl, hO, hE⟩)
 have E1 := hide (E0.out.trans hE)
 have O1 := hide (own_co hO)
 clear hO hE KA E0
 have E2 := hide (ext_alloc w1 (.cells #[.int .i64 0, .int .i64 3] 2))
 have H1 := new_atT w1 [0, 3] (by intro x hx; simp at hx; unfold I64; omega) (by simp) #[.int .i64 0, .int .i64 3] rfl
 have KB := p_allNF (some ⟨w1.heap.size, 0, none⟩) 2 2 [0, 3] 2 _ H1 rfl
 rw [k16b] at KB
 have KB := hide KB
 clear H1
 go_upto_region 3 with (go_at_call 18; (with_reducible refine (KB.out).mono ?_); rintro e w3 ⟨A3, c3, rfl, hO, hE⟩)
 have E3 := hide (E1.out.trans (E2.out.trans hE))
 obtain ⟨b1, o1, rfl, _, hc1⟩ := ((O1.out.ext E2.out).ext hE).2.2 (by simp)
 obtain ⟨b3, o3, rfl, _, hc3⟩ := (own_co hO).2.2 (by simp)
 have p0 : w3.cell? ⟨b1, o1, none⟩ = some (.int .i64 3) := (hc1 0 (by simp)).1
 have p1 : w3.cell? ⟨b1, o1 + 1, none⟩ = some (.int .i64 0) := (hc1 0 (by simp)).2
 have q0 : w3.cell? ⟨b3, o3, none⟩ = some (.int .i64 2) := (hc3 0 (by simp)).1
 have q1 : w3.cell? ⟨b3, o3 + 1, none⟩ = some (.int .i64 1) := (hc3 0 (by simp)).2
 have ix0 : ∀ w, (Instr.indexAt 46 (.slice (some ⟨b1, o1, none⟩) 2 c1) (.int .i64 0)).run Try.prog w = .ok (.pointer (some ⟨b1, o1, none⟩)) w := fun w => idxC b1 o1 2 c1 0 (by decide) w
 have ix1 : ∀ w, (Instr.indexAt 46 (.slice (some ⟨b3, o3, none⟩) 1 c3) (.int .i64 0)).run Try.prog w = .ok (.pointer (some ⟨b3, o3, none⟩)) w := fun w => idxC b3 o3 1 c3 0 (by decide) w
 clear hc1 hc3 hO hE KB O1 E1 E2
 go_wp2_with fail
 go_ret
 exact ⟨rfl, E3.out⟩
end
section
def SegC (eps : Int) (l : List Int) (ls : List Mn) (k a : Nat) : Prop := a ≤ l.length ∧ k ≤ ls.length ∧ SegsN eps (l.drop a) (ls.drop k)
theorem segC0 {eps : Int} (he : 0 ≤ eps) (l : List Int) : SegC eps l (allN eps l) 0 0 := ⟨Nat.zero_le _, Nat.zero_le _, allN_segs he l⟩
theorem SegC.next {eps : Int} {l : List Int} {ls : List Mn} {k a : Nat} (h : SegC eps l ls k a) (hk : k < ls.length) :
   ∃ (s : Mn), ls[k]? = some s ∧ 1 ≤ s.1 ∧ a + s.1 ≤ l.length ∧ IsN ((l.drop a).take s.1) s ∧ FitN eps s ∧ (∀ y, l[a + s.1]? = some y → ¬ FitN eps (moreN s y)) ∧ SegC eps l ls (k + 1) (a + s.1) := by
 obtain ⟨h1, h2, h3⟩ := h
 rw [List.drop_eq_getElem_cons hk] at h3
 cases hd : l.drop a with
 | nil => rw [hd] at h3; exact absurd h3 (by simp [SegsN])
 | cons x l' =>
   rw [hd] at h3
   obtain ⟨g1, g2, g3, g4, g5⟩ := h3
   have hl : l.length - a = l'.length + 1 := by rw [← List.length_drop, hd]; rfl
   refine ⟨ls[k], List.getElem?_eq_getElem hk, g2.2.1, by omega, g2, g3, fun y hy => g4 y ?_, by omega, by omega, ?_⟩
   · rw [← hd, List.getElem?_drop]; exact hy
   · rw [← hd, List.drop_drop] at g5; exact g5
theorem SegC.end_ {eps : Int} {l : List Int} {ls : List Mn} {k a : Nat} (h : SegC eps l ls k a) (hk : k = ls.length) : a = l.length := by
 obtain ⟨h1, h2, h3⟩ := h
 rw [hk, List.drop_length] at h3
 cases hd : l.drop a with
 | nil => have := List.drop_eq_nil_iff.1 hd; omega
 | cons x l' => rw [hd] at h3; exact absurd h3 (by simp [SegsN])
theorem allN_le (eps : Int) (l : List Int) : (allN eps l).length ≤ l.length := by
 have key : ∀ (ls : List Mn) (m : List Int), SegsN eps m ls → ls.length ≤ m.length := by
   intro ls
   induction ls with
   | nil => intro m _; simp
   | cons s ls ih =>
     intro m hm
     cases m with
     | nil => exact absurd hm (by simp [SegsN])
     | cons x m =>
       obtain ⟨g1, g2, _, _, g5⟩ := hm
       have := ih _ g5
       have h1 := g2.2.1
       simp only [List.length_drop, List.length_cons] at *
       omega
 have hle : ∀ (l : List Int) (s : Option Mn), (doneN eps s l).length + (endN (stateN eps s l)).length ≤ l.length + (endN s).length := by
   intro l
   induction l with
   | nil => intro s; simp [doneN, stateN]
   | cons v l ih =>
     intro s
     have h := ih (stepN eps s v).1
     have h2 : (stepN eps s v).2.length + (endN (stepN eps s v).1).length ≤ 1 + (endN s).length := by
       rcases s with _ | s
       · simp [stepN, endN]
       · simp only [stepN]; split <;> simp [endN]
     simp only [doneN, stateN, List.foldl_cons, List.length_append, List.length_cons] at *
     omega
 have := hle l none
 simpa [allN, endN] using this
def SmN (l : List Int) (a j : Nat) : Int := ((l.drop a).take j).sum
theorem smN_0 (l : List Int) (a : Nat) : SmN l a 0 = 0 := by simp [SmN]
theorem smN_next {l : List Int} {a j : Nat} {v : Int} (hv : l[a + j]? = some v) : SmN l a (j + 1) = SmN l a j + v := sum_take (by rw [List.getElem?_drop]; exact hv)
theorem sum_abs : ∀ {l : List Int}, (∀ v ∈ l, I64 v) → l.sum.natAbs ≤ l.length * 9223372036854775808
 | [], _ => by simp
 | v :: l, h => by
   have h1 := h v (by simp)
   have h2 := sum_abs (l := l) fun w hw => h w (by simp [hw])
   simp only [List.sum_cons, List.length_cons]
   unfold I64 at h1
   omega
theorem smN_size {l : List Int} (h : ∀ v ∈ l, I64 v) (a : Nat) {j : Nat} (hj : j ≤ 1073741824) : F256 (SmN l a j) := by
 have h1 := sum_abs (l := (l.drop a).take j) fun v hv => h v (List.mem_of_mem_drop (List.mem_of_mem_take hv))
 have h2 : ((l.drop a).take j).length ≤ j := by rw [List.length_take]; exact Nat.min_le_left _ _
 unfold F256 SmN
 omega
theorem near_iff {x m eps : Int} (he : 0 ≤ eps) : nearV x m eps = true ↔ x - m ≤ eps ∧ m - x ≤ eps := by
 unfold nearV
 rw [decide_eq_true_iff]
 omega
theorem isN_near {l : List Int} {a : Nat} {s : Mn} {eps : Int} (he : 0 ≤ eps) (h : IsN ((l.drop a).take s.1) s) (hl : a + s.1 ≤ l.length) : (∀ i, i < s.1 → nearV (l.getD (a + i) 0) (s.2.2.2 / (s.1 : Int)) eps = true) ↔ FitN eps s := by
 rw [← near_fit h]
 constructor
 · intro k v hv
   obtain ⟨i, hi⟩ := List.mem_iff_getElem?.1 hv
   have hlt : i < s.1 := by
     have := (List.getElem?_eq_some_iff.1 hi).1
     rw [List.length_take] at this
     omega
   rw [List.getElem?_take_of_lt hlt, List.getElem?_drop] at hi
   have := k i hlt
   rw [List.getD_eq_getElem?_getD, hi] at this
   exact (near_iff he).1 this
 · intro k i hi
   refine (near_iff he).2 (k _ ?_)
   refine List.mem_of_getElem? (i := i) ?_
   rw [List.getElem?_take_of_lt hi, List.getElem?_drop, List.getD_eq_getElem?_getD, List.getElem?_eq_getElem (show a + i < l.length by omega)]
   rfl
theorem seg_near {l : List Int} {a : Nat} {s : Mn} {eps : Int} (he : 0 ≤ eps) (h : IsN ((l.drop a).take s.1) s) (hl : a + s.1 ≤ l.length) (hf : FitN eps s) {i : Nat} (hi : i < s.1) : nearV (l.getD (a + i) 0) (s.2.2.2 / (s.1 : Int)) eps = true := (isN_near he h hl).2 hf i hi
theorem seg_sum {l : List Int} {a : Nat} {s : Mn} (h : IsN ((l.drop a).take s.1) s) : SmN l a s.1 = s.2.2.2 := h.2.2.2.2.2
theorem mean_64 {l : List Int} {a n : Nat} (h : ∀ v ∈ l, I64 v) (h1 : 1 ≤ n) (hl : a + n ≤ l.length) : I64 (SmN l a n / (n : Int)) := by
 have hlen : ((l.drop a).take n).length = n := by rw [List.length_take, List.length_drop]; omega
 have hm : ∀ v ∈ (l.drop a).take n, I64 v := fun v hv => h v (List.mem_of_mem_drop (List.mem_of_mem_take hv))
 have p := sum_ge (lo := -9223372036854775808) (p := (l.drop a).take n) fun v hv => (hm v hv).1
 have q := sum_le (hi := 9223372036854775807) (p := (l.drop a).take n) fun v hv => (hm v hv).2
 rw [hlen] at p q
 have hp : (0 : Int) < (n : Int) := by omega
 unfold SmN
 refine ⟨(Int.le_ediv_iff_mul_le hp).2 (by rw [Int.mul_comm]; exact p), ?_⟩
 have := Int.ediv_le_ediv hp q
 rwa [Int.mul_ediv_cancel_left _ (by omega)] at this
end
section
open Go Go.RowKit
section
variable {l : List Oper} {a0 : Act} {W : World} {P : Program} {Q : Exit → Act → World → Prop}
theorem wp_evA {id : Nat} (kd : List Tg) (nd : List Nat) (V : (Nat → Value) → List Value) (zero : Nat → Obj) (full : (Nat → Value) → Nat → Obj) (tgt : Nat → Nat) (T : Nat → (Nat → Value) → World → Prop) (E : Nat → Prop) (A : (Nat → Value) → Act) (F : (Nat → Value) → (Nat → Nat) → Act) (hF : ∀ R G, putE l kd (V R) R G 0 a0 = F R G) (hA : ∀ R, F R (fun _ => 0) = A R) (hm : P.follows .mixedOrders = true) (hck : chkE l kd = true) (hnd : ndB l kd nd = true) (hdst : dstB l a0.tmps.size = true) (h4 : kd.length = l.length) (h5 : ∀ R, (V R).length = l.length)
   (hE : ∀ k, E k → k < W.heap.size) (hEt : ∀ c, Tg.so c ∈ kd → ¬ E (tgt c)) (htg : ∀ c, Tg.so c ∈ kd → tgt c < W.heap.size) (htd : ∀ c c', Tg.so c ∈ kd → Tg.so c' ∈ kd → tgt c = tgt c' → c = c') (hV : ∀ R R', Stab nd R R' 0 (V R) (V R')) (hFu : ∀ R R' i, (∀ m, m < nd.getD i 0 → R m = R' m) → full R i = full R' i)
   (hTB : ∀ s R w w', T s R w → Below w.heap.size w w' → T s R w') (hT0 : T 0 (fun _ => undef) W.drew)
   (hops : AllOps (RuleE P T E l kd nd V zero full tgt W A) 0 l)
   (hend : ∀ s R G w, EInv T E l kd zero full tgt W (List.range l.length) s R G w → ∀ f, f = F R G → Q .normal f w) :
   (Code.region id l.toArray true).wp P Q a0 W := by
 have e : A = fun R => putE l kd (V R) R (fun _ => 0) 0 a0 := funext fun R => ((hF R _).trans (hA R)).symm
 rw [e] at hops
 exact wp_ev kd nd V zero full tgt T E hm hck hnd hdst h4 h5 hE hEt htg htd hV hFu hTB hT0 hops (fun s R G w hI => hend s R G w hI _ (hF R G))
theorem wp_evsA {id : Nat} (kd : List Tg) (nd : List Nat) (V : (Nat → Value) → List Value) (zero : Nat → Obj) (full : (Nat → Value) → Nat → Obj) (tgt : Nat → Nat) (T : Nat → (Nat → Value) → World → Prop) (E : Nat → Prop) (A : (Nat → Value) → Act) (F : (Nat → Value) → (Nat → Nat) → Act) (hF : ∀ R G, putE l kd (V R) R G 0 a0 = F R G) (hA : ∀ R, F R (fun _ => 0) = A R) (hck : chkE l kd = true) (hnd : ndB l kd nd = true) (hdst : dstB l a0.tmps.size = true) (h4 : kd.length = l.length) (h5 : ∀ R, (V R).length = l.length)
   (hE : ∀ k, E k → k < W.heap.size) (hEt : ∀ c, Tg.so c ∈ kd → ¬ E (tgt c)) (htg : ∀ c, Tg.so c ∈ kd → tgt c < W.heap.size) (htd : ∀ c c', Tg.so c ∈ kd → Tg.so c' ∈ kd → tgt c = tgt c' → c = c') (hV : ∀ R R', Stab nd R R' 0 (V R) (V R')) (hFu : ∀ R R' i, (∀ m, m < nd.getD i 0 → R m = R' m) → full R i = full R' i)
   (hTB : ∀ s R w w', T s R w → Below w.heap.size w w' → T s R w') (hT0 : T 0 (fun _ => undef) W)
   (hops : AllOps (RuleE P T E l kd nd V zero full tgt W A) 0 l)
   (hend : ∀ s R G w, EInv T E l kd zero full tgt W (List.range l.length) s R G w → ∀ f, f = F R G → Q .normal f w) :
   (Code.region id l.toArray false).wp P Q a0 W := by
 have e : A = fun R => putE l kd (V R) R (fun _ => 0) 0 a0 := funext fun R => ((hF R _).trans (hA R)).symm
 rw [e] at hops
 exact wp_evs kd nd V zero full tgt T E hck hnd hdst h4 h5 hE hEt htg htd hV hFu hTB hT0 hops (fun s R G w hI => hend s R G w hI _ (hF R G))
end
end
section
open Go Go.RowKit
def ValsPost (N B b : Nat) (W : World) (e : Ending) (w' : World) : Prop := ∃ A n cap l, e = .returned (.slice A n cap) ∧ l.length = n ∧ n ≤ N ∧ n ≤ cap ∧ cap ≤ 9223372036854775807 ∧ OwnT W.heap.size w' (.slice A n cap) l ∧ TapeOk B w' b ∧ Upd b W w'
set_option maxHeartbeats 3200000 in
set_option maxRecDepth 100000 in
theorem t_values (N B b : Nat) (hN : N ≤ 1000) (W : World) (hT : TapeOk B W b) : Calls Try.prog 16 #[.pointer (some ⟨b, 0, none⟩), .int .i64 (N : Int)] W (ValsPost N B b W) := by
 have KT := hide (t_samples N B b hN W hT)
 have hbW := hT.2.1
 clear hT
 go_enter Try.func16, Try.ntmps16
 go_upto_region 2 with (go_at_call 40; (with_reducible refine (KT.out).mono ?_); rintro e w1 ⟨Am, n, cap, m, rfl, hm, hnN, hncap, hncap2, -, hO, T1, u1⟩; have T1 := hide T1; have U1 := hide u1; have M1 := hide (own_samps hO); have Hm := hide hm; clear hO hm u1)
 have hB1 : W.heap.size ≤ w1.heap.size := U1.out.2.2.2.1
 have E1 : Hid (Ext w1 w1) := Ext.refl _
 have Hs := hide M1.out.1
 clear KT
 go_wp2_with fail
 go_loopw [6, 7] (fun lv iv wr => ∃ i : Nat, i ≤ n ∧ iv = .int .i64 (i : Int) ∧ Hid (OwnT w1.heap.size wr lv ((m.map Prod.snd).take i)) ∧ Hid (Ext w1 wr)) (fun _ iv _ => n - (intOf iv).toNat)
 case atStart => exact ⟨0, by omega, rfl, hide (OwnT.nil_ _ _), E1⟩
 case round =>
   clear E1
   obtain ⟨i, hi, rfl, HO, HE⟩ := hrel
   by_cases hlt : i < n
   · have d0 : decide ((i : Int) < (n : Int)) = true := decide_eq_true (by omega)
     have him : i < m.length := by rw [Hm.out]; exact hlt
     obtain ⟨bm, om, rfl, _, hc⟩ := (M1.out.ext HE.out).2.2 (by omega)
     have ct := (hc i him).2
     rw [← Nat.add_assoc] at ct
     have ix := fun w => idxS bm om n cap i hlt w
     have hst := takeT_succ (l := m.map Prod.snd) (k := i) (by rw [List.length_map]; exact him)
     have hget : (m.map Prod.snd).getD i 0 = (m.getD i (0, 0)).2 := by simp [List.getD_eq_getElem?_getD, him]
     have hx := (Hs.out.get i).2
     obtain ⟨x, hxx⟩ : ∃ x, (m.getD i (0, 0)).2 = x := ⟨_, rfl⟩
     rw [hxx] at ct hx hget
     rw [hget] at hst
     have hle : ((m.map Prod.snd).take i).length + [x].length ≤ 17592186044416 := by rw [List.length_take, List.length_map, Hm.out]; simp; omega
     have Hst := hide hst
     have O3 := hide (HO.out.alloc (.cells #[Value.int .i64 x] 2))
     have hone := hide (one_atT wr x hx _ rfl)
     have E3 := hide (Ext.trans HE.out (ext_alloc wr (.cells #[Value.int .i64 x] 2)))
     obtain ⟨T, hT⟩ : ∃ T, (m.map Prod.snd).take i = T := ⟨_, rfl⟩
     rw [hT] at O3 Hst hle
     clear hc him hst hget hxx hT HO HE
     go_wp2_with (at_builtin; refine wl_appendT rfl (.tmp 17) (.tmp 23) rfl w1.heap.size _ T [x] rfl O3.out _ 1 1 rfl hone.out rfl hle E3.out.size ?_; intro v6 w6 hO6 hG6 hA6)
     have O6 : Hid (OwnT w1.heap.size w6 v6 ((m.map Prod.snd).take (i + 1))) := by show OwnT _ _ _ _; rw [Hst.out]; exact hO6
     have E6 := hide (below_grownT E3.out (Nat.le_refl _) O3.out hG6)
     clear hO6 hG6 hA6 O3 E3
     go_roundw
     case rel => exact ⟨i + 1, by omega, by go_num, O6, E6⟩
     case measure => simp [intOf]; omega
   · obtain rfl : i = n := by omega
     have d0 : decide ((i : Int) < (i : Int)) = false := decide_eq_false (by omega)
     go_wp2_with fail
     go_ret
     have hO := HO.out
     rw [List.take_of_length_le (by rw [List.length_map, Hm.out]; omega)] at hO
     obtain ⟨A, c, hv, h1, h2, h3⟩ := hO.at_
     subst hv
     have hll : (m.map Prod.snd).length = i := by rw [List.length_map, Hm.out]
     exact ⟨A, _, c, _, rfl, rfl, by omega, h1, h2, hO.less hB1, T1.out.ext HE.out, U1.out.trans (Ext.upd HE.out b)⟩
end
section
open Go Go.RowKit Go.Sort
attribute [local go_sem] qUpon eUpon putE slE
theorem p_allVe (A : Option Addr) (n c : Nat) (l : List Int) (eps : Int) (W : World) (he : Tol eps) (hl : TimesAt W A l) (hn : l.length = n) (hn2 : n ≤ 1073741824) (r : List (Int × Int)) (nr : Nat) (hr : (allN eps l).map coN = r) (hnr : r.length = nr) :
   Calls Try.prog 18 #[.slice A n c, .int .i64 eps] W fun e w' => ∃ A1 c1, e = .returned (.tuple #[.slice A1 nr c1, .int .i64 0]) ∧ SampsAt w' A1 r ∧ Ext W w' := by
 have h := p_allGe A n c l eps W he hl hn hn2
 rw [hr] at h
 refine h.mono ?_
 rintro e w' ⟨A1, c1, rfl, hO, hE⟩
 exact ⟨A1, c1, by rw [hnr]; rfl, own_co hO, hE⟩
theorem co_getN {eps : Int} {l : List Int} {k : Nat} {s : Mn} (h : (allN eps l)[k]? = some s) : ((allN eps l).map coN).getD k (0, 0) = ((s.1 : Int), s.2.2.2 / (s.1 : Int)) := by
 simp [List.getD_eq_getElem?_getD, h, coN]
end
section
open Go Go.RowKit Go.Sort
attribute [local go_sem] qUpon eUpon putE slE
set_option maxRecDepth 100000 in
set_option maxHeartbeats 12800000 in
theorem law_ewith (A : Option Addr) (n c : Nat) (l : List Int) (y : Option Addr) (len cap : Nat) (W : World) (hl : TimesAt W A l) (hn : l.length = n) (hnc : n ≤ c) (hc : c ≤ 17592186043904) (hL : IsList W y len cap) :
   Calls Try.prog 5 #[.slice A n c, .slice y len cap] W (Ret (.bool true) W) := by
 have KN : Hid (Calls Try.prog 7 #[.slice y len cap] W (NewPost W)) := t_new W y len cap hL
 have KT : Hid (∀ w, TapeOk W.heap.size w W.heap.size → Calls Try.prog 17 #[.pointer (some ⟨W.heap.size, 0, none⟩)] w (NextPost W.heap.size W.heap.size Tol .i64 w)) := hide (fun w h => t_tol W.heap.size W.heap.size w w h (Upd.refl _ _))
 have KL : Hid (∀ w, TapeOk W.heap.size w W.heap.size → Calls Try.prog 16 #[.pointer (some ⟨W.heap.size, 0, none⟩), .int .i64 30] w (ValsPost 30 W.heap.size W.heap.size w)) := hide (fun w h => t_values 30 W.heap.size W.heap.size (by omega) w h)
 have KK := hide (fun w => l_known16 w)
 have KC := hide (fun w => rw_ofi i64_0 w)
 obtain ⟨n', hn'⟩ : ∃ k, min n 2000 = k := ⟨_, rfl⟩
 have en : min (n : Int) 2000 = (n' : Int) := by omega
 have rs := fun w => run_uptoT A n n' c (by omega) (by omega) w
 have HL := hide (hl.take n')
 have Hn : Hid ((l.take n').length = n') := hide (by rw [List.length_take]; omega)
 have hn2 : n' ≤ 2000 := by omega
 obtain ⟨l', hl'⟩ : ∃ z, l.take n' = z := ⟨_, rfl⟩
 rw [hl'] at HL Hn
 clear hL hl hn hn' hl'
 go_enter Try.func5, Try.ntmps5
 go_upto_region 4 with (first
   | (go_at_call 7; (with_reducible refine (KN.out).mono ?_); rintro e w1 ⟨rfl, hT, hE⟩; have T1 := hide hT; have E1 := hide hE; have kt := hide (KT.out w1 hT); clear hT hE)
   | (go_at_call 17; (with_reducible refine (kt.out).mono ?_); rintro e w2 ⟨eps, rfl, htol, hT2, U2⟩; have T2 := hide hT2; have E2 := hide (Upd.ext U2 E1.out (Nat.le_refl _)); have Htol := hide htol; have kl := hide (KL.out w2 hT2); have hgb : W.heap.size < w2.heap.size := (Nat.lt_of_lt_of_le T1.out.2.1 U2.2.2.2.1); clear htol U2 hT2))
 go_upto_region 5 with (go_at_call 16; (with_reducible refine (kl.out).mono ?_); rintro e w3 ⟨Av, nv, capv, mv, rfl, hnm, hn30, hncap, hncap2, hO, hT3, hU3⟩; have S3 := hide (Bt.of E2.out T2.out hO hT3 hU3); clear hO hT3 hU3 hncap hncap2)
 have Q3 := Blk.new w3 43 #[.slice A n' c, .slice Av nv capv]
 have X4 := ext_alloc w3 (.cells #[.slice A n' c, .slice Av nv capv] 43)
 obtain ⟨g, hg⟩ : ∃ q, w3.heap.size = q := ⟨_, rfl⟩
 obtain ⟨w4, hw4⟩ : ∃ w, w3.alloc (.cells #[.slice A n' c, .slice Av nv capv] 43) = w := ⟨_, rfl⟩
 rw [hw4, hg] at Q3
 rw [hw4] at X4
 rw [hw4, hg]
 have Hnv := hide hnm
 have Hx : Hid (∀ (wr : World) (k : Nat), Ext w4 wr → k < 2 → ∃ (A : Option Addr) (n c : Nat) (l : List Int), wr.cell? ⟨g, k, none⟩ = some (.slice A n c) ∧ TimesAt wr A l ∧ l.length = n ∧ n ≤ 2000 ∧ ∀ w, Ext wr w → w.cell? ⟨g, k, none⟩ = some (.slice A n c) ∧ TimesAt w A l) := hide (fun wr k hE hk => by
   have q1 := Q3.ext hE
   have E11 := X4.trans hE
   obtain rfl | rfl : k = 0 ∨ k = 1 := by omega
   · exact ⟨A, n', c, l', q1.cell 0, (HL.out.ext S3.out.e).ext E11, Hn.out, hn2, fun w h => ⟨(q1.ext h).cell 0, ((HL.out.ext S3.out.e).ext E11).ext h⟩⟩
   · exact ⟨Av, nv, capv, mv, q1.cell 1, S3.out.times.ext E11, Hnv.out, by omega, fun w h => ⟨(q1.ext h).cell 1, (S3.out.times.ext E11).ext h⟩⟩)
 have E4 := hide (S3.out.e.trans X4)
 have EW : Hid (Ext w4 w4) := Ext.refl _
 clear KN KT KL kt kl T1 T2 E1 E2 hw4 hg Q3 X4 S3 HL Hn hnm hgb rs en hn2
 go_upto_region 6 with fail
 go_loopw [8] (fun iv wr => ∃ i : Nat, i ≤ 2 ∧ iv = .int .i64 (i : Int) ∧ Hid (Ext w4 wr)) (fun iv _ => 2 - (intOf iv).toNat)
 case atStart => exact ⟨0, by omega, rfl, EW⟩
 case round =>
   clear EW
   obtain ⟨i, hi, rfl, HE⟩ := hrel
   by_cases hi2 : i < 2
   · have d0 : decide ((i : Int) < 2) = true := decide_eq_true (by omega)
     obtain ⟨Am, nm, capm, m, ci, hM, hnm, hn20, HC⟩ := Hx.out wr i HE.out hi2
     have ixi := fun w => idxLL g 2 2 i hi2 w
     have HC := hide HC
     obtain ⟨r, hr⟩ : ∃ r, (allN eps m).map coN = r := ⟨_, rfl⟩
     obtain ⟨nr, hnr⟩ : ∃ k, r.length = k := ⟨_, rfl⟩
     have k1 := hide (p_allVe Am nm capm m eps wr Htol.out hM hnm (by omega) r nr hr hnr)
     have HI := hide hM.1
     have Hr := hide hr
     have Hnm := hide hnm
     have Hnr : Hid ((allN eps m).length = nr) := hide (by rw [← hnr, ← hr, List.length_map])
     have hnr2 : nr ≤ 2000 := by have := allN_le eps m; have := Hnr.out; omega
     have HS0 := hide (segC0 (eps := eps) Htol.out.1 m)
     clear hr hnr hnm hM
     go_upto_region 11 with (go_at_call 18; (with_reducible refine (k1.out).mono ?_); rintro e w5 ⟨A4, c4, rfl, h4, hE5⟩; have S4 := hide h4; have E5 := hide hE5; clear h4 hE5 k1)
     obtain ⟨wp, hwp⟩ : ∃ wo, wo = wr := ⟨_, rfl⟩
     subst hwp
     have EW : Hid (Ext w5 w5) := Ext.refl _
     go_loopw [11, 12] (fun av kv wr => ∃ k a : Nat, kv = .int .i64 (k : Int) ∧ av = .int .i64 (a : Int) ∧ k ≤ nr ∧ a ≤ nm ∧ Hid (SegC eps m (allN eps m) k a) ∧ Hid (Ext w5 wr)) (fun _ kv _ => nr - (intOf kv).toNat)
     case atStart => exact ⟨0, 0, rfl, rfl, by omega, by omega, HS0, EW⟩
     case round =>
       clear EW HS0
       obtain ⟨k, a, rfl, rfl, hk, ha, HS, HE2⟩ := hrel
       obtain ⟨ci2, hM2⟩ := HC.out wr (E5.out.trans HE2.out)
       by_cases hlt : k < nr
       · have d1 : decide ((k : Int) < (nr : Int)) = true := decide_eq_true (by omega)
         have d1n : decide (k < nr) = true := decide_eq_true (by omega)
         obtain ⟨s, hq, hq1, hq2, hin, hfit, -, hS2⟩ := HS.out.next (by rw [Hnr.out]; exact hlt)
         have hget := co_getN hq
         rw [Hr.out] at hget
         have hsum := seg_sum hin
         have hnear := fun i hi => seg_near (i := i) Htol.out.1 hin hq2 hfit hi
         have hmd64 := mean_64 (a := a) (n := s.1) HI.out hq1 hq2
         rw [Hnm.out] at hq2
         rw [← hsum] at hget hnear
         obtain ⟨q, hqs⟩ : ∃ z, s.1 = z := ⟨_, rfl⟩
         rw [hqs] at hq1 hq2 hget hS2 hnear hmd64
         obtain ⟨md, hmd⟩ : ∃ z, SmN m a q / (q : Int) = z := ⟨_, rfl⟩
         rw [hmd] at hget hnear hmd64
         have hrl : r.length = nr := by rw [← Hr.out, List.length_map]; exact Hnr.out
         obtain ⟨b1, o1, rfl, _, hc⟩ := (S4.out.ext HE2.out).2.2 (by omega)
         have p1 := (hc k (by omega)).1
         have p2 := (hc k (by omega)).2
         rw [hget] at p1 p2
         dsimp only at p1 p2
         obtain ⟨kx, hkx⟩ : ∃ z, o1 + 2 * k = z := ⟨_, rfl⟩
         rw [← Nat.add_assoc] at p2
         rw [hkx] at p1 p2
         have LC : Hid (∀ w, Ext wr w → w.cell? ⟨b1, kx, none⟩ = some (.int .i64 (q : Int)) ∧ w.cell? ⟨b1, kx + 1, none⟩ = some (.int .i64 md)) := hide fun w h => by
           obtain ⟨b', o', hA, hb', _⟩ := (S4.out.ext HE2.out).2.2 (by omega)
           cases hA
           exact ⟨(h.cell (p := ⟨b1, kx, none⟩) hb').trans p1, (h.cell (p := ⟨b1, kx + 1, none⟩) hb').trans p2⟩
         have L0 : Hid (∀ w, Ext wr w → w.cell? ⟨b1, kx, none⟩ = some (.int .i64 (q : Int))) := hide fun w h => (LC.out w h).1
         have L1 : Hid (∀ w, Ext wr w → w.cell? ⟨b1, kx + 1, none⟩ = some (.int .i64 md)) := hide fun w h => (LC.out w h).2
         have iL : Hid (∀ w, (Instr.indexAt 46 (.slice (some ⟨b1, o1, none⟩) nr c4) (.int .i64 (k : Int))).run Try.prog w = .ok (.pointer (some ⟨b1, kx, none⟩)) w) := hide fun w => by rw [← hkx]; exact idxC b1 o1 nr c4 k hlt w
         have iA : Hid (∀ w, (Instr.indexAt 51 (.slice (some ⟨g, 0, none⟩) 2 2) (.int .i64 (i : Int))).run Try.prog w = .ok (.pointer (some ⟨g, i, none⟩)) w) := hide ixi
         obtain ⟨bm, om, rfl, _, hcm⟩ := hM2.2.2 (by rw [Hnm.out]; omega)
         have C0 : Hid (∀ w, Ext wr w → w.cell? ⟨g, i, none⟩ = some (.slice (some ⟨bm, om, none⟩) nm capm)) := hide fun w h => (HC.out w ((E5.out.trans HE2.out).trans h)).1
         have CM : Hid (∀ w, Ext wr w → ∀ j, j < nm → w.cell? ⟨bm, om + j, none⟩ = some (.int .i64 (m.getD j 0))) := hide fun w h j hj => by
           obtain ⟨b', o', hA, hb', _⟩ := hM2.2.2 (by rw [Hnm.out]; omega)
           cases hA
           exact (h.cell (p := ⟨bm, om + j, none⟩) hb').trans (hcm j (by rw [Hnm.out]; exact hj))
         have IX : Hid (∀ j, j < nm → ∀ w, (Instr.indexAt 43 (.slice (some ⟨bm, om, none⟩) nm capm) (.int .i64 (j : Int))).run Try.prog w = .ok (.pointer (some ⟨bm, om + j, none⟩)) w) := hide fun j hj w => idxT bm om nm capm j hj w
         have g1 : decide ((q : Int) < 1) = false := decide_eq_false (by omega)
         obtain ⟨rd, hrd⟩ : ∃ z : Nat, nm - a = z := ⟨_, rfl⟩
         have e1 : IntKind.i64.wrap ((nm : Int) - (a : Int)) = (rd : Int) := by rw [IntKind.wrap_i64]; omega
         have g2 : decide ((rd : Int) < (q : Int)) = false := decide_eq_false (by omega)
         have g2n : decide (rd < q) = false := decide_eq_false (by omega)
         have HNear := hide hnear
         have HS2 := hide hS2
         have Hmd := hide hmd
         have Hmd64 := hide hmd64
         have i64q : I64 (q : Int) := ⟨by omega, by omega⟩
         obtain ⟨wo, hwo⟩ : ∃ wo, wo = wr := ⟨_, rfl⟩
         subst hwo
         have HE0 := HE2
         have EE : Hid (Ext wo wo) := Ext.refl _
         clear hc hcm hget hrl hq hin hfit hsum hnear hmd64 hS2 hmd hqs hkx p1 p2 hrd HS HE2 ci2 hM2 LC
         go_upto_region 13 with fail
         have cq1_0 := iL.out
         have cq1_1 := iA.out
         have cq1_2 := fun d os => L0.out _ (EE.out.trans (ext_regrown wo d os))
         have cq1_3 := fun d os => C0.out _ (EE.out.trans (ext_regrown wo d os))
         refine wp_region_quiet_below (by kernel_rfl) (by kernel_rfl) ?_
         repeat (first | go_big_quiet_step (fail) | quiet_step (fail))
         refine wpQuiet_nil ?_
         intro _ hw'
         obtain ⟨⟨dq, osq⟩, hw''⟩ := hw'
         subst hw''
         replace EE := hide (EE.out.trans (ext_regrown wo dq osq))
         obtain ⟨w2, hzq1⟩ : ∃ w, grow (redrawn wo dq) osq = w := ⟨_, rfl⟩
         rw [hzq1] at EE  ⊢
         clear hzq1 cq1_0 cq1_1 cq1_2 cq1_3
         go_upto_region 15 with fail
         refine wp_evsA [.q, .al, .st 1] [0, 0, 0] (fun R => [.agg (wCe 0), undef, undef]) (fun _ => (.cells z5 25 (0, 0))) (fun R _ => (.cells (wCe 0) 25 (0, 0))) (fun _ => 0) (XE wo) (fun _ => False) _ (fun R G => { tmps := #[.slice A n' c, .slice y len cap, undef, undef, u4, .pointer (some ⟨W.heap.size, 0, none⟩), .int .i64 eps, .slice (some ⟨g, 0, none⟩) 2 2, .int .i64 (i : Int), .slice (some ⟨b1, o1, none⟩) nr c4, .int .i64 0, .int .i64 (a : Int), .int .i64 (k : Int), .pointer (some ⟨G 1, 0, none⟩), u14, u15, u16, u17, .slice A n c, .slice A n c, .int .i64 (n : Int), .int .i64 (n' : Int), .slice A n' c, .slice y len cap, .pointer (some ⟨W.heap.size, 0, none⟩), .pointer (some ⟨W.heap.size, 0, none⟩), .int .i64 eps, .slice A n' c, .pointer (some ⟨W.heap.size, 0, none⟩), .slice Av nv capv, .slice (some ⟨g, 0, none⟩) 2 2, .int .i64 (i : Int), .bool true, u33, u34, .tuple #[.slice (some ⟨b1, o1, none⟩) nr c4, .int .i64 0], .slice (some ⟨g, 0, none⟩) 2 2, .int .i64 (i : Int), .pointer (some ⟨g, i, none⟩), .slice (some ⟨bm, om, none⟩) nm capm, .int .i64 eps, .tuple #[.slice (some ⟨b1, o1, none⟩) nr c4, .int .i64 0], .slice (some ⟨b1, o1, none⟩) nr c4, .int .i64 0, .int .i64 (k : Int), .slice (some ⟨b1, o1, none⟩) nr c4, .int .i64 (nr : Int), .bool true, u48, u49, .slice (some ⟨b1, o1, none⟩) nr c4, .int .i64 (k : Int), .pointer (some ⟨b1, kx, none⟩), .pointer (some ⟨b1, kx, none⟩), .int .i64 (q : Int), .bool false, .bool false, .slice (some ⟨b1, o1, none⟩) nr c4, .int .i64 (k : Int), .pointer (some ⟨b1, kx, none⟩), .pointer (some ⟨b1, kx, none⟩), .int .i64 (q : Int), .slice (some ⟨g, 0, none⟩) 2 2, .int .i64 (i : Int), .pointer (some ⟨g, i, none⟩), .slice (some ⟨bm, om, none⟩) nm capm, .int .i64 (nm : Int), .int .i64 (a : Int), .int .i64 (rd : Int), .bool false, .bool false, .agg (wCe 0), u72, u73, u74, u75, u76, u77, u78, u79, u80, u81, u82, u83, u84, u85, u86, u87, u88, u89, u90, u91, u92, u93, u94, u95, u96, u97, u98, u99, u100, u101, u102, u103, u104, u105, u106, u107, u108, u109, u110, u111, u112, u113, u114, u115, u116, u117, u118, u119, u120, u121, u122, u123, u124, u125, u126, u127, u128, u129, u130, u131, u132, u133, u134, u135, u136, u137, u138, u139, u140, u141, undef], defers := [] }) (by intro R G; kernel_rfl) (fun _ => rfl) (by kernel_rfl) (by kernel_rfl) (by kernel_rfl) rfl (fun _ => rfl) (fun _ h => h.elim) (fun _ _ h => h) (by simp) (by simp) (fun R R' => ⟨fun _ => rfl, fun _ => rfl, fun _ => rfl, trivial⟩) (fun _ _ _ _ => rfl) xe_below EE.out ?ops5 ?end5
         case ops5 =>
           refine ⟨?_, ?_, ?_, trivial⟩
           · refine er_q ?vn3 ?hn3 ?kn3 ?gn3 ?_
             case hn3 => exact rfl
             case vn3 => exact (fun R => .agg (wCe 0))
             case kn3 => exact (fun R => rfl)
             case gn3 => exact gd_none rfl
             intro R s w' hT hs hw ha
             go_simp
             exact KC.out w'
           · refine er_al ?zn4 ?hn4 ?kn4 ?gn4 ?_
             case zn4 => exact (.cells z5 25 (0, 0))
             case hn4 => exact rfl
             case kn4 => exact rfl
             case gn4 => exact gd_none rfl
             intro ρ w'
             go_simp
             exact ⟨rfl, rfl⟩
           · refine er_st (j := 1) (Ty := ?Tn5) (p := ?pn5) (x := ?xn5) ?fn5 ?zn5 ?vn5 ?hn5 ?on5 ?kn5 ?ln5 ?gn5 ?en5 ?_
             case hn5 => exact rfl
             case on5 => exact rfl
             case fn5 => exact (fun R => (.cells (wCe 0) 25 (0, 0)))
             case zn5 => exact (.cells z5 25 (0, 0))
             case vn5 => exact (fun R => .agg (wCe 0))
             case kn5 => exact (fun R => rfl)
             case ln5 => exact rfl
             case gn5 => exact gd_none rfl
             case en5 =>
               intro R
               kernel_rfl
             intro R s ρ w g hT hs hp hx hg hz
             exact ⟨store_row rfl hp hx hz iWide ((wC_size 0)) ((wC_onee 0)), fun w1 hF => ext_filled hT hF (Nat.le_trans EE.out.size hg)⟩
         case end5 =>
          intro sI R G w6 hI FF hFF
          have hS := hI.same
          have hTT := hI.holds
          have hz0 := EE.out.size
          have P13 : Blk w6 (G 1) 25 (wCe 0) := (hI.fulls 2 (List.mem_range.2 (show 2 < 3 by decide)) 1 rfl).2.2
          have hmP13 := (hI.made 1 (List.mem_range.2 (show 1 < 3 by decide)) rfl).1
          have P13_lo : wo.heap.size ≤ G 1 := Nat.le_trans hz0 hmP13
          replace EE := hide (show Ext _ _ from hTT)
          clear hS hz0 hTT hI 
          dsimp only at hFF
          subst hFF
          generalize G 1 = g13 at *
          have P13' : Hid (Blk w6 g13 25 (wCe (SmN m a 0))) := by rw [smN_0]; exact P13
          have EE1 := EE
          clear EE P13
          go_wp2_with fail
          go_loopw [11, 14] (fun av jv wr => ∃ j : Nat, j ≤ q ∧ jv = .int .i64 (j : Int) ∧ av = .int .i64 ((a + j : Nat) : Int) ∧ Hid (Blk wr g13 25 (wCe (SmN m a j))) ∧ Hid (Ext wo wr)) (fun _ jv _ => q - (intOf jv).toNat)
          case atStart => exact ⟨0, Nat.zero_le _, rfl, rfl, P13', EE1⟩
          case round =>
            clear P13' EE1
            obtain ⟨j, hj, rfl, rfl, HP, EE⟩ := hrel
            have P13 := HP.out
            by_cases hjq : j < q
            · have d3 : decide ((j : Int) < (q : Int)) = true := decide_eq_true (by omega)
              have d3n : decide (j < q) = true := decide_eq_true (by omega)
              have hnj := HNear.out j hjq
              obtain ⟨aj, haj⟩ : ∃ z, a + j = z := ⟨_, rfl⟩
              have hajn : aj < nm := by omega
              obtain ⟨sj, hsj⟩ : ∃ z, om + aj = z := ⟨_, rfl⟩
              have Y0 : Hid (∀ w, Ext wo w → w.cell? ⟨bm, sj, none⟩ = some (.int .i64 (m.getD aj 0))) := hide fun w h => by rw [← hsj]; exact CM.out w h aj hajn
              have iY : Hid (∀ w, (Instr.indexAt 43 (.slice (some ⟨bm, om, none⟩) nm capm) (.int .i64 (aj : Int))).run Try.prog w = .ok (.pointer (some ⟨bm, sj, none⟩)) w) := hide fun w => by rw [← hsj]; exact IX.out aj hajn w
              have hlj := getT (l := m) (j := aj) (by rw [Hnm.out]; exact hajn)
              have ixj := HI.out.get aj
              rw [haj] at hnj ⊢
              obtain ⟨xj, hxj⟩ : ∃ z, m.getD aj 0 = z := ⟨_, rfl⟩
              rw [hxj] at Y0 hlj ixj hnj
              have haj1 : a + (j + 1) = aj + 1 := by omega
              rw [← haj] at hlj
              have hnx := smN_next hlj
              have f0 := smN_size HI.out a (j := j) (by omega)
              have f1 := smN_size HI.out a (j := j + 1) (by omega)
              have k1 := hide fun w => rw_ofi ixj w
              have k2 := hide fun w => rw_add f0 (f64 ixj) hnx.symm f1 w
              have k3 : Hid (∀ w, Calls Try.prog 21 #[.int .i64 xj, .int .i64 md, .int .i64 eps] w (Ret (.bool true) w)) := hide fun w => r_near xj md eps w ixj Hmd64.out (tol64 Htol.out) true hnj
              have w5' : IntKind.i64.wrap ((j : Int) + 1) = ((j + 1 : Nat) : Int) := by rw [IntKind.wrap_i64]; omega
              have w6' : IntKind.i64.wrap ((aj : Int) + 1) = ((aj + 1 : Nat) : Int) := by rw [IntKind.wrap_i64]; omega
              obtain ⟨S0, hS0⟩ : ∃ z, SmN m a j = z := ⟨_, rfl⟩
              obtain ⟨S1, hS1⟩ : ∃ z, SmN m a (j + 1) = z := ⟨_, rfl⟩
              rw [hS0] at k2 P13
              rw [hS1] at k2
              have HS1 := hide hS1
              have Haj1 := hide haj1
              clear hS0 hS1 hnx f0 f1 hlj hsj haj hxj HP hnj haj1
              go_upto_region 17 with fail
              have cq7_0 := iL.out
              have cq7_1 := fun d os => L0.out _ (EE.out.trans (ext_regrown wr d os))
              refine wp_region_reads ?_
              repeat (first | go_big_quiet_step (fail) | quiet_step (fail))
              refine wpQuiet_nil ?_
              intro _ hw'
              obtain ⟨⟨dq, osq⟩, hw''⟩ := hw'
              subst hw''
              replace P13 := (P13).ext (ext_regrown wr dq osq)
              replace EE := hide (EE.out.trans (ext_regrown wr dq osq))
              obtain ⟨w8, hzq7⟩ : ∃ w, grow (redrawn wr dq) osq = w := ⟨_, rfl⟩
              rw [hzq7] at EE P13 ⊢
              clear hzq7 cq7_0 cq7_1
              go_upto_region 19 with fail
              have cq9_0 := iA.out
              have cq9_1 := iY.out
              have cq9_2 := iL.out
              have cq9_3 := fun d os => C0.out _ (EE.out.trans (ext_regrown w8 d os))
              have cq9_4 := fun d os => Y0.out _ (EE.out.trans (ext_regrown w8 d os))
              have cq9_5 := fun d os => L1.out _ (EE.out.trans (ext_regrown w8 d os))
              refine wp_region_quiet_below (by kernel_rfl) (by kernel_rfl) ?_
              repeat (first | go_big_quiet_step (first | with_reducible exact quiet_ret (k3.out _)) | quiet_step (first | with_reducible exact quiet_ret (k3.out _)))
              refine wpQuiet_nil ?_
              intro _ hw'
              obtain ⟨⟨dq, osq⟩, hw''⟩ := hw'
              subst hw''
              replace P13 := (P13).ext (ext_regrown w8 dq osq)
              replace EE := hide (EE.out.trans (ext_regrown w8 dq osq))
              obtain ⟨w10, hzq9⟩ : ∃ w, grow (redrawn w8 dq) osq = w := ⟨_, rfl⟩
              rw [hzq9] at EE P13 ⊢
              clear hzq9 cq9_0 cq9_1 cq9_2 cq9_3 cq9_4 cq9_5
              go_upto_region 21 with fail
              have P13_lt := P13.lt
              refine wp_evA [.q, .q, .q, .q, .q, .q, .q, .q, .q, .q, .q, .q, .q, .so 0] [0, 0, 0, 0, 0, 0, 0, 0, 0, 0, 0, 0, 0, 0] (fun R => [.agg (wCe S0), .slice (some ⟨g, 0, none⟩) 2 2, .int .i64 (i : Int), .pointer (some ⟨g, i, none⟩), .slice (some ⟨bm, om, none⟩) nm capm, .int .i64 (aj : Int), .pointer (some ⟨bm, sj, none⟩), .int .i64 xj, .agg (wCe xj), .tuple #[.agg (wCe S1), .bool true], .tuple #[.agg (wCe S1), .bool true], .agg (wCe S1), .bool true, undef]) (fun _ => (.cells #[] 0 (0, 0))) (fun R _ => (.cells (wCe S1) 25 (0, 0))) (fun _ => g13) (XE wo) (fun _ => False) _ (fun R G => { tmps := #[.slice A n' c, .slice y len cap, undef, undef, u4, .pointer (some ⟨W.heap.size, 0, none⟩), .int .i64 eps, .slice (some ⟨g, 0, none⟩) 2 2, .int .i64 (i : Int), .slice (some ⟨b1, o1, none⟩) nr c4, .int .i64 0, .int .i64 (aj : Int), .int .i64 (k : Int), .pointer (some ⟨g13, 0, none⟩), .int .i64 (j : Int), u15, u16, u17, .slice A n c, .slice A n c, .int .i64 (n : Int), .int .i64 (n' : Int), .slice A n' c, .slice y len cap, .pointer (some ⟨W.heap.size, 0, none⟩), .pointer (some ⟨W.heap.size, 0, none⟩), .int .i64 eps, .slice A n' c, .pointer (some ⟨W.heap.size, 0, none⟩), .slice Av nv capv, .slice (some ⟨g, 0, none⟩) 2 2, .int .i64 (i : Int), .bool true, u33, u34, .tuple #[.slice (some ⟨b1, o1, none⟩) nr c4, .int .i64 0], .slice (some ⟨g, 0, none⟩) 2 2, .int .i64 (i : Int), .pointer (some ⟨g, i, none⟩), .slice (some ⟨bm, om, none⟩) nm capm, .int .i64 eps, .tuple #[.slice (some ⟨b1, o1, none⟩) nr c4, .int .i64 0], .slice (some ⟨b1, o1, none⟩) nr c4, .int .i64 0, .int .i64 (k : Int), .slice (some ⟨b1, o1, none⟩) nr c4, .int .i64 (nr : Int), .bool true, u48, u49, .slice (some ⟨b1, o1, none⟩) nr c4, .int .i64 (k : Int), .pointer (some ⟨b1, kx, none⟩), .pointer (some ⟨b1, kx, none⟩), .int .i64 (q : Int), .bool false, .bool false, .slice (some ⟨b1, o1, none⟩) nr c4, .int .i64 (k : Int), .pointer (some ⟨b1, kx, none⟩), .pointer (some ⟨b1, kx, none⟩), .int .i64 (q : Int), .slice (some ⟨g, 0, none⟩) 2 2, .int .i64 (i : Int), .pointer (some ⟨g, i, none⟩), .slice (some ⟨bm, om, none⟩) nm capm, .int .i64 (nm : Int), .int .i64 (a : Int), .int .i64 (rd : Int), .bool false, .bool false, .agg (wCe 0), .int .i64 (j : Int), .slice (some ⟨b1, o1, none⟩) nr c4, .int .i64 (k : Int), .pointer (some ⟨b1, kx, none⟩), .pointer (some ⟨b1, kx, none⟩), .int .i64 (q : Int), .bool true, u79, u80, .slice (some ⟨g, 0, none⟩) 2 2, .int .i64 (i : Int), .pointer (some ⟨g, i, none⟩), .slice (some ⟨bm, om, none⟩) nm capm, .int .i64 (aj : Int), .pointer (some ⟨bm, sj, none⟩), .int .i64 xj, .slice (some ⟨b1, o1, none⟩) nr c4, .int .i64 (k : Int), .pointer (some ⟨b1, kx, none⟩), .pointer (some ⟨b1, kx + 1, none⟩), .int .i64 md, .int .i64 eps, .bool true, .bool false, .tuple #[.agg (wCe S1), .bool true], .agg (wCe S0), .slice (some ⟨g, 0, none⟩) 2 2, .int .i64 (i : Int), .pointer (some ⟨g, i, none⟩), .slice (some ⟨bm, om, none⟩) nm capm, .int .i64 (aj : Int), .pointer (some ⟨bm, sj, none⟩), .int .i64 xj, .agg (wCe xj), .tuple #[.agg (wCe S1), .bool true], .agg (wCe S1), .bool true, u109, u110, u111, u112, u113, u114, u115, u116, u117, u118, u119, u120, u121, u122, u123, u124, u125, u126, u127, u128, u129, u130, u131, u132, u133, u134, u135, u136, u137, u138, u139, u140, u141, undef], defers := [] }) (by intro R G; kernel_rfl) (fun _ => rfl) (by kernel_rfl) (by kernel_rfl) (by kernel_rfl) (by kernel_rfl) rfl (fun _ => rfl) (fun _ h => h.elim) (fun _ _ h => h) (by intro c hc; simp at hc; (try subst hc); (try simp only); omega) (by intro c c' h1 h2 _; simp at h1 h2; omega) (fun R R' => ⟨fun _ => rfl, fun _ => rfl, fun _ => rfl, fun _ => rfl, fun _ => rfl, fun _ => rfl, fun _ => rfl, fun _ => rfl, fun _ => rfl, fun _ => rfl, fun _ => rfl, fun _ => rfl, fun _ => rfl, fun _ => rfl, trivial⟩) (fun _ _ _ _ => rfl) xe_below (EE.out.trans (ext_drew _)) ?ops24 ?end24
              case ops24 =>
                refine ⟨?_, ?_, ?_, ?_, ?_, ?_, ?_, ?_, ?_, ?_, ?_, ?_, ?_, ?_, trivial⟩
                · refine er_q ?vn11 ?hn11 ?kn11 ?gn11 ?_
                  case hn11 => exact rfl
                  case vn11 => exact (fun R => .agg (wCe S0))
                  case kn11 => exact (fun R => rfl)
                  case gn11 => exact gd_none rfl
                  intro R s w' hT hs hw ha
                  have L := ld_all ((ha 13 0 rfl (by kernel_rfl)).trans P13) uWide rfl iWide (wC_size S0)
                  refine q_load rfl ?_ L
                  kernel_rfl
                · refine er_q ?vn12 ?hn12 ?kn12 ?gn12 ?_
                  case hn12 => exact rfl
                  case vn12 => exact (fun R => .slice (some ⟨g, 0, none⟩) 2 2)
                  case kn12 => exact (fun R => rfl)
                  case gn12 => exact gd_none rfl
                  intro R s w' hT hs hw ha
                  go_simp
                · refine er_q ?vn13 ?hn13 ?kn13 ?gn13 ?_
                  case hn13 => exact rfl
                  case vn13 => exact (fun R => .int .i64 (i : Int))
                  case kn13 => exact (fun R => rfl)
                  case gn13 => exact gd_none rfl
                  intro R s w' hT hs hw ha
                  go_simp
                · refine er_q ?vn14 ?hn14 ?kn14 ?gn14 ?_
                  case hn14 => exact rfl
                  case vn14 => exact (fun R => .pointer (some ⟨g, i, none⟩))
                  case kn14 => exact (fun R => rfl)
                  case gn14 => exact gd_none rfl
                  intro R s w' hT hs hw ha
                  refine q_idx rfl ?_ ?_ (iA.out w')
                  · kernel_rfl
                  · kernel_rfl
                · refine er_q ?vn15 ?hn15 ?kn15 ?gn15 ?_
                  case hn15 => exact rfl
                  case vn15 => exact (fun R => .slice (some ⟨bm, om, none⟩) nm capm)
                  case kn15 => exact (fun R => rfl)
                  case gn15 => exact gd_none rfl
                  intro R s w' hT hs hw ha
                  have cc := C0.out w' hT
                  go_simp
                · refine er_q ?vn16 ?hn16 ?kn16 ?gn16 ?_
                  case hn16 => exact rfl
                  case vn16 => exact (fun R => .int .i64 (aj : Int))
                  case kn16 => exact (fun R => rfl)
                  case gn16 => exact gd_none rfl
                  intro R s w' hT hs hw ha
                  go_simp
                · refine er_q ?vn17 ?hn17 ?kn17 ?gn17 ?_
                  case hn17 => exact rfl
                  case vn17 => exact (fun R => .pointer (some ⟨bm, sj, none⟩))
                  case kn17 => exact (fun R => rfl)
                  case gn17 => exact gd_none rfl
                  intro R s w' hT hs hw ha
                  refine q_idx rfl ?_ ?_ (iY.out w')
                  · kernel_rfl
                  · kernel_rfl
                · refine er_q ?vn18 ?hn18 ?kn18 ?gn18 ?_
                  case hn18 => exact rfl
                  case vn18 => exact (fun R => .int .i64 xj)
                  case kn18 => exact (fun R => rfl)
                  case gn18 => exact gd_none rfl
                  intro R s w' hT hs hw ha
                  have cc := Y0.out w' hT
                  go_simp
                · refine er_q ?vn19 ?hn19 ?kn19 ?gn19 ?_
                  case hn19 => exact rfl
                  case vn19 => exact (fun R => .agg (wCe xj))
                  case kn19 => exact (fun R => rfl)
                  case gn19 => exact gd_none rfl
                  intro R s w' hT hs hw ha
                  go_simp
                  exact k1.out w'
                · refine er_q ?vn20 ?hn20 ?kn20 ?gn20 ?_
                  case hn20 => exact rfl
                  case vn20 => exact (fun R => .tuple #[.agg (wCe S1), .bool true])
                  case kn20 => exact (fun R => rfl)
                  case gn20 => exact gd_none rfl
                  intro R s w' hT hs hw ha
                  go_simp
                  exact k2.out w'
                · refine er_q ?vn21 ?hn21 ?kn21 ?gn21 ?_
                  case hn21 => exact rfl
                  case vn21 => exact (fun R => .tuple #[.agg (wCe S1), .bool true])
                  case kn21 => exact (fun R => rfl)
                  case gn21 => exact gd_none rfl
                  intro R s w' hT hs hw ha
                  go_simp
                · refine er_q ?vn22 ?hn22 ?kn22 ?gn22 ?_
                  case hn22 => exact rfl
                  case vn22 => exact (fun R => .agg (wCe S1))
                  case kn22 => exact (fun R => rfl)
                  case gn22 => exact gd_none rfl
                  intro R s w' hT hs hw ha
                  go_simp
                · refine er_q ?vn23 ?hn23 ?kn23 ?gn23 ?_
                  case hn23 => exact rfl
                  case vn23 => exact (fun R => .bool true)
                  case kn23 => exact (fun R => rfl)
                  case gn23 => exact gd_none rfl
                  intro R s w' hT hs hw ha
                  go_simp
                · refine er_so (c := 0) (Ty := ?Tn24) (p := ?pn24) (x := ?xn24) g13 ?fn24 ?un24 ?vn24 ?hn24 ?on24 ?kn24 ?ln24 ?gn24 ?dn24 ?en24 ?_
                  case hn24 => exact rfl
                  case on24 => exact rfl
                  case fn24 => exact (fun R => (.cells (wCe S1) 25 (0, 0)))
                  case un24 => exact (fun R => .pointer (some ⟨g13, 0, none⟩))
                  case vn24 => exact (fun R => .agg (wCe S1))
                  case kn24 => exact (fun R => rfl)
                  case ln24 => exact rfl
                  case gn24 => exact gd_none rfl
                  case dn24 =>
                    intro R
                    kernel_rfl
                  case en24 =>
                    intro R
                    kernel_rfl
                  intro R s ρ w hT hs hp hx hz
                  refine ⟨store_rowN (g := g13) rfl hp hx (hz.trans P13) iWide ((wC_size S0)) ((wC_size S1)) ((wC_onee S1)), fun w1 hF => ext_filled hT hF P13_lo⟩
              case end24 =>
               intro sI R G w25 hI FF hFF
               have hS := hI.same
               have hTT := hI.holds
               have hz0 := EE.out.size
               replace P13 : Blk w25 g13 25 (wCe S1) := hI.olds' 13 (List.mem_range.2 (show 13 < 14 by decide)) 0 rfl
               replace EE := hide (show Ext _ _ from hTT)
               clear hS hz0 hTT hI P13_lt
               dsimp only at hFF
               subst hFF
               go_wp2_with fail
               go_roundw
               case rel => exact ⟨j + 1, by omega, by go_num, by rw [Haj1.out]; go_num, by rw [HS1.out]; exact hide P13, EE⟩
               case measure => simp [intOf]; omega
            · have d3 : decide ((j : Int) < (q : Int)) = false := decide_eq_false (by omega)
              have d3n : decide (j < q) = false := decide_eq_false (by omega)
              obtain rfl : j = q := by omega
              obtain ⟨p, hp⟩ : ∃ z : Nat, a + j = z := ⟨_, rfl⟩
              have HS3 : Hid (SegC eps m (allN eps m) (k + 1) p) := hide (by rw [← hp]; exact HS2.out)
              have hp2 : p ≤ nm := by omega
              rw [hp]
              have f0 := smN_size HI.out a (j := j) (by omega)
              have hmd := Hmd.out
              obtain ⟨SS, hSS⟩ : ∃ z, SmN m a j = z := ⟨_, rfl⟩
              rw [hSS] at f0 hmd P13
              obtain ⟨rm, hrm⟩ : ∃ z, SS % (j : Int) = z := ⟨_, rfl⟩
              have k1 := hide fun w => rw_ofi i64q w
              have k2 := hide fun w => rw_div f0 (f64 i64q) (by omega) hmd hrm w
              have k3 := hide fun w => rw_ofi Hmd64.out w
              have qn : ∀ w, (binOp .neq 25 (.agg (wCe md)) (.agg (wCe md))).run Try.prog w = .ok (.bool false) w := fun w => neq_same _ _ _ _ _ w
              clear f0 hSS hmd hrm HP HS2 hp HNear
              go_upto_region 17 with fail
              have cq607_0 := iL.out
              have cq607_1 := fun d os => L0.out _ (EE.out.trans (ext_regrown wr d os))
              refine wp_region_reads ?_
              repeat (first | go_big_quiet_step (fail) | quiet_step (fail))
              refine wpQuiet_nil ?_
              intro _ hw'
              obtain ⟨⟨dq, osq⟩, hw''⟩ := hw'
              subst hw''
              replace P13 := (P13).ext (ext_regrown wr dq osq)
              replace EE := hide (EE.out.trans (ext_regrown wr dq osq))
              obtain ⟨w608, hzq607⟩ : ∃ w, grow (redrawn wr dq) osq = w := ⟨_, rfl⟩
              rw [hzq607] at EE P13 ⊢
              clear hzq607 cq607_0 cq607_1
              go_upto_region 23 with fail
              have P13_lt := P13.lt
              refine wp_evA [.q, .q, .q, .q, .q, .q, .q, .q, .q, .q, .q, .q, .al, .al, .st 12, .st 13, .q] [0, 0, 0, 0, 0, 0, 0, 0, 0, 0, 0, 0, 0, 0, 0, 0, 0] (fun R => [.agg (wCe SS), .slice (some ⟨b1, o1, none⟩) nr c4, .int .i64 (k : Int), .pointer (some ⟨b1, kx, none⟩), .pointer (some ⟨b1, kx, none⟩), .int .i64 (j : Int), .agg (wCe (j : Int)), .tuple #[.agg (wCe md), .agg (wCe rm), .bool true], .tuple #[.agg (wCe md), .agg (wCe rm), .bool true], .agg (wCe md), .agg (wCe rm), .bool true, undef, undef, undef, undef, .bool true]) (fun i => match i with | 12 => (.cells z5 25 (0, 0)) | _ => (.cells z5 25 (0, 0))) (fun R i => match i with | 14 => (.cells (wCe md) 25 (0, 0)) | _ => (.cells (wCe rm) 25 (0, 0))) (fun _ => 0) (XE wo) (fun _ => False) _ (fun R G => { tmps := #[.slice A n' c, .slice y len cap, undef, undef, u4, .pointer (some ⟨W.heap.size, 0, none⟩), .int .i64 eps, .slice (some ⟨g, 0, none⟩) 2 2, .int .i64 (i : Int), .slice (some ⟨b1, o1, none⟩) nr c4, .int .i64 0, .int .i64 (p : Int), .int .i64 (k : Int), .pointer (some ⟨g13, 0, none⟩), .int .i64 (j : Int), .pointer (some ⟨G 12, 0, none⟩), .pointer (some ⟨G 13, 0, none⟩), .bool true, .slice A n c, .slice A n c, .int .i64 (n : Int), .int .i64 (n' : Int), .slice A n' c, .slice y len cap, .pointer (some ⟨W.heap.size, 0, none⟩), .pointer (some ⟨W.heap.size, 0, none⟩), .int .i64 eps, .slice A n' c, .pointer (some ⟨W.heap.size, 0, none⟩), .slice Av nv capv, .slice (some ⟨g, 0, none⟩) 2 2, .int .i64 (i : Int), .bool true, u33, u34, .tuple #[.slice (some ⟨b1, o1, none⟩) nr c4, .int .i64 0], .slice (some ⟨g, 0, none⟩) 2 2, .int .i64 (i : Int), .pointer (some ⟨g, i, none⟩), .slice (some ⟨bm, om, none⟩) nm capm, .int .i64 eps, .tuple #[.slice (some ⟨b1, o1, none⟩) nr c4, .int .i64 0], .slice (some ⟨b1, o1, none⟩) nr c4, .int .i64 0, .int .i64 (k : Int), .slice (some ⟨b1, o1, none⟩) nr c4, .int .i64 (nr : Int), .bool true, u48, u49, .slice (some ⟨b1, o1, none⟩) nr c4, .int .i64 (k : Int), .pointer (some ⟨b1, kx, none⟩), .pointer (some ⟨b1, kx, none⟩), .int .i64 (j : Int), .bool false, .bool false, .slice (some ⟨b1, o1, none⟩) nr c4, .int .i64 (k : Int), .pointer (some ⟨b1, kx, none⟩), .pointer (some ⟨b1, kx, none⟩), .int .i64 (j : Int), .slice (some ⟨g, 0, none⟩) 2 2, .int .i64 (i : Int), .pointer (some ⟨g, i, none⟩), .slice (some ⟨bm, om, none⟩) nm capm, .int .i64 (nm : Int), .int .i64 (a : Int), .int .i64 (rd : Int), .bool false, .bool false, .agg (wCe 0), .int .i64 (j : Int), .slice (some ⟨b1, o1, none⟩) nr c4, .int .i64 (k : Int), .pointer (some ⟨b1, kx, none⟩), .pointer (some ⟨b1, kx, none⟩), .int .i64 (j : Int), .bool false, u79, u80, u81, u82, u83, u84, u85, u86, u87, u88, u89, u90, u91, u92, u93, u94, u95, u96, u97, u98, u99, u100, u101, u102, u103, u104, u105, u106, u107, u108, u109, u110, .tuple #[.agg (wCe md), .agg (wCe rm), .bool true], .agg (wCe SS), .slice (some ⟨b1, o1, none⟩) nr c4, .int .i64 (k : Int), .pointer (some ⟨b1, kx, none⟩), .pointer (some ⟨b1, kx, none⟩), .int .i64 (j : Int), .agg (wCe (j : Int)), .tuple #[.agg (wCe md), .agg (wCe rm), .bool true], .agg (wCe md), .agg (wCe rm), .bool true, u123, u124, u125, u126, u127, u128, u129, u130, u131, u132, u133, u134, u135, u136, u137, u138, u139, u140, u141, undef], defers := [] }) (by intro R G; kernel_rfl) (fun _ => rfl) (by kernel_rfl) (by kernel_rfl) (by kernel_rfl) (by kernel_rfl) rfl (fun _ => rfl) (fun _ h => h.elim) (fun _ _ h => h) (by simp) (by simp) (fun R R' => ⟨fun _ => rfl, fun _ => rfl, fun _ => rfl, fun _ => rfl, fun _ => rfl, fun _ => rfl, fun _ => rfl, fun _ => rfl, fun _ => rfl, fun _ => rfl, fun _ => rfl, fun _ => rfl, fun _ => rfl, fun _ => rfl, fun _ => rfl, fun _ => rfl, fun _ => rfl, trivial⟩) (fun _ _ _ _ => rfl) xe_below (EE.out.trans (ext_drew _)) ?ops625 ?end625
              case ops625 =>
                refine ⟨?_, ?_, ?_, ?_, ?_, ?_, ?_, ?_, ?_, ?_, ?_, ?_, ?_, ?_, ?_, ?_, ?_, trivial⟩
                · refine er_q ?vn609 ?hn609 ?kn609 ?gn609 ?_
                  case hn609 => exact rfl
                  case vn609 => exact (fun R => .agg (wCe SS))
                  case kn609 => exact (fun R => rfl)
                  case gn609 => exact gd_none rfl
                  intro R s w' hT hs hw ha
                  have L := ld_all (P13.sameE hw (fun h => h) (by simp)) uWide rfl iWide (wC_size SS)
                  refine q_load rfl ?_ L
                  kernel_rfl
                · refine er_q ?vn610 ?hn610 ?kn610 ?gn610 ?_
                  case hn610 => exact rfl
                  case vn610 => exact (fun R => .slice (some ⟨b1, o1, none⟩) nr c4)
                  case kn610 => exact (fun R => rfl)
                  case gn610 => exact gd_none rfl
                  intro R s w' hT hs hw ha
                  go_simp
                · refine er_q ?vn611 ?hn611 ?kn611 ?gn611 ?_
                  case hn611 => exact rfl
                  case vn611 => exact (fun R => .int .i64 (k : Int))
                  case kn611 => exact (fun R => rfl)
                  case gn611 => exact gd_none rfl
                  intro R s w' hT hs hw ha
                  go_simp
                · refine er_q ?vn612 ?hn612 ?kn612 ?gn612 ?_
                  case hn612 => exact rfl
                  case vn612 => exact (fun R => .pointer (some ⟨b1, kx, none⟩))
                  case kn612 => exact (fun R => rfl)
                  case gn612 => exact gd_none rfl
                  intro R s w' hT hs hw ha
                  refine q_idx rfl ?_ ?_ (iL.out w')
                  · kernel_rfl
                  · kernel_rfl
                · refine er_q ?vn613 ?hn613 ?kn613 ?gn613 ?_
                  case hn613 => exact rfl
                  case vn613 => exact (fun R => .pointer (some ⟨b1, kx, none⟩))
                  case kn613 => exact (fun R => rfl)
                  case gn613 => exact gd_none rfl
                  intro R s w' hT hs hw ha
                  go_simp
                · refine er_q ?vn614 ?hn614 ?kn614 ?gn614 ?_
                  case hn614 => exact rfl
                  case vn614 => exact (fun R => .int .i64 (j : Int))
                  case kn614 => exact (fun R => rfl)
                  case gn614 => exact gd_none rfl
                  intro R s w' hT hs hw ha
                  have cc := L0.out w' hT
                  go_simp
                · refine er_q ?vn615 ?hn615 ?kn615 ?gn615 ?_
                  case hn615 => exact rfl
                  case vn615 => exact (fun R => .agg (wCe (j : Int)))
                  case kn615 => exact (fun R => rfl)
                  case gn615 => exact gd_none rfl
                  intro R s w' hT hs hw ha
                  go_simp
                  exact k1.out w'
                · refine er_q ?vn616 ?hn616 ?kn616 ?gn616 ?_
                  case hn616 => exact rfl
                  case vn616 => exact (fun R => .tuple #[.agg (wCe md), .agg (wCe rm), .bool true])
                  case kn616 => exact (fun R => rfl)
                  case gn616 => exact gd_none rfl
                  intro R s w' hT hs hw ha
                  go_simp
                  exact k2.out w'
                · refine er_q ?vn617 ?hn617 ?kn617 ?gn617 ?_
                  case hn617 => exact rfl
                  case vn617 => exact (fun R => .tuple #[.agg (wCe md), .agg (wCe rm), .bool true])
                  case kn617 => exact (fun R => rfl)
                  case gn617 => exact gd_none rfl
                  intro R s w' hT hs hw ha
                  go_simp
                · refine er_q ?vn618 ?hn618 ?kn618 ?gn618 ?_
                  case hn618 => exact rfl
                  case vn618 => exact (fun R => .agg (wCe md))
                  case kn618 => exact (fun R => rfl)
                  case gn618 => exact gd_none rfl
                  intro R s w' hT hs hw ha
                  go_simp
                · refine er_q ?vn619 ?hn619 ?kn619 ?gn619 ?_
                  case hn619 => exact rfl
                  case vn619 => exact (fun R => .agg (wCe rm))
                  case kn619 => exact (fun R => rfl)
                  case gn619 => exact gd_none rfl
                  intro R s w' hT hs hw ha
                  go_simp
                · refine er_q ?vn620 ?hn620 ?kn620 ?gn620 ?_
                  case hn620 => exact rfl
                  case vn620 => exact (fun R => .bool true)
                  case kn620 => exact (fun R => rfl)
                  case gn620 => exact gd_none rfl
                  intro R s w' hT hs hw ha
                  go_simp
                · refine er_al ?zn621 ?hn621 ?kn621 ?gn621 ?_
                  case zn621 => exact (.cells z5 25 (0, 0))
                  case hn621 => exact rfl
                  case kn621 => exact rfl
                  case gn621 => exact gd_none rfl
                  intro ρ w'
                  go_simp
                  exact ⟨rfl, rfl⟩
                · refine er_al ?zn622 ?hn622 ?kn622 ?gn622 ?_
                  case zn622 => exact (.cells z5 25 (0, 0))
                  case hn622 => exact rfl
                  case kn622 => exact rfl
                  case gn622 => exact gd_none rfl
                  intro ρ w'
                  go_simp
                  exact ⟨rfl, rfl⟩
                · refine er_st (j := 12) (Ty := ?Tn623) (p := ?pn623) (x := ?xn623) ?fn623 ?zn623 ?vn623 ?hn623 ?on623 ?kn623 ?ln623 ?gn623 ?en623 ?_
                  case hn623 => exact rfl
                  case on623 => exact rfl
                  case fn623 => exact (fun R => (.cells (wCe md) 25 (0, 0)))
                  case zn623 => exact (.cells z5 25 (0, 0))
                  case vn623 => exact (fun R => .agg (wCe md))
                  case kn623 => exact (fun R => rfl)
                  case ln623 => exact rfl
                  case gn623 => exact gd_none rfl
                  case en623 =>
                    intro R
                    kernel_rfl
                  intro R s ρ w g hT hs hp hx hg hz
                  exact ⟨store_row rfl hp hx hz iWide ((wC_size md)) ((wC_onee md)), fun w1 hF => ext_filled hT hF (Nat.le_trans EE.out.size hg)⟩
                · refine er_st (j := 13) (Ty := ?Tn624) (p := ?pn624) (x := ?xn624) ?fn624 ?zn624 ?vn624 ?hn624 ?on624 ?kn624 ?ln624 ?gn624 ?en624 ?_
                  case hn624 => exact rfl
                  case on624 => exact rfl
                  case fn624 => exact (fun R => (.cells (wCe rm) 25 (0, 0)))
                  case zn624 => exact (.cells z5 25 (0, 0))
                  case vn624 => exact (fun R => .agg (wCe rm))
                  case kn624 => exact (fun R => rfl)
                  case ln624 => exact rfl
                  case gn624 => exact gd_none rfl
                  case en624 =>
                    intro R
                    kernel_rfl
                  intro R s ρ w g hT hs hp hx hg hz
                  exact ⟨store_row rfl hp hx hz iWide ((wC_size rm)) ((wC_onee rm)), fun w1 hF => ext_filled hT hF (Nat.le_trans EE.out.size hg)⟩
                · refine er_q ?vn625 ?hn625 ?kn625 ?gn625 ?_
                  case hn625 => exact rfl
                  case vn625 => exact (fun R => .bool true)
                  case kn625 => exact (fun R => rfl)
                  case gn625 => exact gd_none rfl
                  intro R s w' hT hs hw ha
                  go_simp
              case end625 =>
               intro sI R G w626 hI FF hFF
               have hS := hI.same
               have hTT := hI.holds
               have hz0 := EE.out.size
               replace P13 := P13.sameE hS (fun h => h) (by simp)
               have P15 : Blk w626 (G 12) 25 (wCe md) := (hI.fulls 14 (List.mem_range.2 (show 14 < 17 by decide)) 12 rfl).2.2
               have hmP15 := (hI.made 12 (List.mem_range.2 (show 12 < 17 by decide)) rfl).1
               have P15_lo : wo.heap.size ≤ G 12 := Nat.le_trans hz0 hmP15
               have P16 : Blk w626 (G 13) 25 (wCe rm) := (hI.fulls 15 (List.mem_range.2 (show 15 < 17 by decide)) 13 rfl).2.2
               have hmP16 := (hI.made 13 (List.mem_range.2 (show 13 < 17 by decide)) rfl).1
               have P16_lo : wo.heap.size ≤ G 13 := Nat.le_trans hz0 hmP16
               have ng15_16 : G 12 ≠ G 13 := fun e => by have := hI.apart 12 (List.mem_range.2 (show 12 < 17 by decide)) 13 (List.mem_range.2 (show 13 < 17 by decide)) rfl rfl e; omega
               have ngP13_15 : g13 ≠ G 12 := by omega
               have ngP13_16 : g13 ≠ G 13 := by omega
               replace EE := hide (show Ext _ _ from hTT)
               clear hS hz0 hTT hI P13_lt
               dsimp only at hFF
               subst hFF
               generalize G 12 = g15 at *
               generalize G 13 = g16 at *
               go_upto_region 24 with fail
               have cq627_0 := iL.out
               have cq627_1 := qn
               have cq627_2 := fun d os => L1.out _ (EE.out.trans (ext_regrown w626 d os))
               refine wp_region_quiet_below (by kernel_rfl) (by kernel_rfl) ?_
               repeat (first | go_big_quiet_step (first | with_reducible exact quiet_ret (k3.out _)) | (refine wq_load (by kernel_rfl) rfl rfl (fun w hw => by obtain ⟨⟨d, os⟩, rfl⟩ := hw; exact ld_all ((P15).ext (ext_regrown w626 d os)) uWide rfl iWide (wC_size md)) ?_) | quiet_step (first | with_reducible exact quiet_ret (k3.out _)))
               refine wpQuiet_nil ?_
               intro _ hw'
               obtain ⟨⟨dq, osq⟩, hw''⟩ := hw'
               subst hw''
               replace P13 := (P13).ext (ext_regrown w626 dq osq)
               replace P15 := (P15).ext (ext_regrown w626 dq osq)
               replace P16 := (P16).ext (ext_regrown w626 dq osq)
               replace EE := hide (EE.out.trans (ext_regrown w626 dq osq))
               obtain ⟨w628, hzq627⟩ : ∃ w, grow (redrawn w626 dq) osq = w := ⟨_, rfl⟩
               rw [hzq627] at EE P13 P15 P16 ⊢
               clear hzq627 cq627_0 cq627_1 cq627_2
               have E7 := hide (HE0.out.trans EE.out)
               clear EE P13 P15 P16 k1 k2 k3
               go_wp2_with fail
               go_roundw
               case rel => exact ⟨k + 1, p, by go_num, rfl, by omega, hp2, HS3, E7⟩
               case measure => simp [intOf]; omega
       · obtain rfl : k = nr := by omega
         have d1 : decide ((k : Int) < (k : Int)) = false := decide_eq_false (by omega)
         have hae := HS.out.end_ Hnr.out.symm
         rw [Hnm.out] at hae
         subst hae
         have b1 : ((a : Int) != (a : Int)) = false := by simp
         have E7 := hide ((HE.out.trans E5.out).trans HE2.out)
         clear HS HE2
         go_wp2_with fail
         go_roundw
         case rel => exact ⟨i + 1, by omega, by go_num, E7⟩
         case measure => simp [intOf]; omega
   · obtain rfl : i = 2 := by omega
     have d0 : decide (((2 : Nat) : Int) < 2) = false := by decide
     have EE := hide (E4.out.trans HE.out)
     clear HE
     go_wp2_with (go_at_call 14; (with_reducible refine (KK.out _).mono ?_); rintro e w8 ⟨rfl, hE⟩; have E8 := hide (EE.out.trans hE); clear hE)
     go_ret
     exact ⟨rfl, E8.out⟩
end
end Go.Proofs.Ytlfmeiejocpnfaa
