/- Part 7 of what these claims stand on: contracts of the program's and the reference's functions, and plain facts. Conditions: each states its own. -/
import Derived.Test.YtlfmeiejocpnfaaPrA6
import Derived.Deep.RegionLaw
namespace Go.Proofs.Ytlfmeiejocpnfaa
set_option linter.unusedVariables false
set_option linter.unusedSimpArgs false
section
open Go Go.RowKit Go.Sort
def allNF (eps : Int) (l : List Int) : List (Int × Int) × Nat := if tolB eps = true then (if 1073741824 < l.length then ([], 3) else ((allN eps l).map coN, 0)) else ([], 9)
theorem stepN_le (eps : Int) (s : Option Mn) (v : Int) : (stepN eps s v).2.length ≤ 1 := by
 rcases s with _ | s
 · simp [stepN]
 · simp only [stepN]; split <;> simp
theorem doneN_le (eps : Int) : ∀ (l : List Int) (s : Option Mn), (doneN eps s l).length ≤ l.length
 | [], _ => by simp [doneN]
 | v :: l, s => by
   have h1 := doneN_le eps l (stepN eps s v).1
   have h2 := stepN_le eps s v
   simp only [doneN, List.length_append, List.length_cons]
   omega
theorem endN_le (s : Option Mn) : (endN s).length ≤ 1 := by rcases s with _ | s <;> simp [endN]
theorem stN_size (eps : Int) (s : Option Mn) : (stN eps s).size = 9 := by rcases s with _ | ⟨n, lo, hi, sm⟩ <;> rfl
theorem state_atV {eps : Int} (he : Tol eps) {l : List Int} (ho : ∀ v ∈ l, I64 v) (hn : l.length ≤ 1073741824) (j : Nat) (hj : j ≤ l.length) : OkV eps (stateN eps none (l.take j)) ∧ cntN (stateN eps none (l.take j)) ≤ j :=
 ⟨okN_okV (state_atN he ho hn j hj).1, (state_atN he ho hn j hj).2⟩
theorem blk9 {w : World} {g : Nat} {t c lo hi z t' c' lo' hi' z' : Int} (h : Blk w g 27 (meC t c lo hi z)) : Blk (((((((((w.setCell ⟨g, 0, none⟩ (.int .i64 t')).setCell ⟨g, 1, none⟩ (.int .i64 c')).setCell ⟨g, 2, none⟩ (.int .i64 lo')).setCell ⟨g, 3, none⟩ (.int .i64 hi')).setCell ⟨g, 4, none⟩ (.bool (sg z'))).setCell ⟨g, 5, none⟩ (.int .u64 (l0 z' : Int))).setCell ⟨g, 6, none⟩ (.int .u64 (l1 z' : Int))).setCell ⟨g, 7, none⟩ (.int .u64 (l2 z' : Int))).setCell ⟨g, 8, none⟩ (.int .u64 (l3 z' : Int))) g 27 (meC t' c' lo' hi' z') := by
 have k := (((((((((h).set_ 0 (.int .i64 t')).set_ 1 (.int .i64 c')).set_ 2 (.int .i64 lo')).set_ 3 (.int .i64 hi')).set_ 4 (.bool (sg z'))).set_ 5 (.int .u64 (l0 z' : Int))).set_ 6 (.int .u64 (l1 z' : Int))).set_ 7 (.int .u64 (l2 z' : Int))).set_ 8 (.int .u64 (l3 z' : Int))
 have e : ((((((((((meC t c lo hi z)).setIfInBounds 0 (.int .i64 t')).setIfInBounds 1 (.int .i64 c')).setIfInBounds 2 (.int .i64 lo')).setIfInBounds 3 (.int .i64 hi')).setIfInBounds 4 (.bool (sg z'))).setIfInBounds 5 (.int .u64 (l0 z' : Int))).setIfInBounds 6 (.int .u64 (l1 z' : Int))).setIfInBounds 7 (.int .u64 (l2 z' : Int))).setIfInBounds 8 (.int .u64 (l3 z' : Int)) = meC t' c' lo' hi' z' := by kernel_rfl
 rw [e] at k
 exact k
theorem upd9 (w : World) (g : Nat) (t c lo hi z : Int) : Upd g w (((((((((w.setCell ⟨g, 0, none⟩ (.int .i64 t)).setCell ⟨g, 1, none⟩ (.int .i64 c)).setCell ⟨g, 2, none⟩ (.int .i64 lo)).setCell ⟨g, 3, none⟩ (.int .i64 hi)).setCell ⟨g, 4, none⟩ (.bool (sg z))).setCell ⟨g, 5, none⟩ (.int .u64 (l0 z : Int))).setCell ⟨g, 6, none⟩ (.int .u64 (l1 z : Int))).setCell ⟨g, 7, none⟩ (.int .u64 (l2 z : Int))).setCell ⟨g, 8, none⟩ (.int .u64 (l3 z : Int))) := ((((((((((Upd.refl g w)).set 0 (.int .i64 t)).set 1 (.int .i64 c)).set 2 (.int .i64 lo)).set 3 (.int .i64 hi)).set 4 (.bool (sg z))).set 5 (.int .u64 (l0 z : Int))).set 6 (.int .u64 (l1 z : Int))).set 7 (.int .u64 (l2 z : Int))).set 8 (.int .u64 (l3 z : Int))
theorem r_allTe (A : Option Addr) (n c : Nat) (eps : Int) (W : World) (ht : tolB eps = false) : Calls Try.prog 19 #[.slice A n c, .int .i64 eps] W (CoFin [] 9 W) := by
 have KS := hide fun w => r_startE_no eps w (hide fun w => r_tolI eps w false ht)
 unfold z9m at *
 clear ht
 go_enter Try.func19, Try.ntmps19
 go_wp2_with (go_at_call 10; (with_reducible refine (KS.out _).mono ?_); rintro e w1 ⟨rfl, hE⟩; have E1 := hide hE; clear hE)
 go_ret2
 exact ⟨none, 0, rfl, OwnC.nil_ _ _, E1.out.trans (ext_alloc _ _)⟩
theorem r_allLe (A : Option Addr) (n c : Nat) (eps : Int) (W : World) (ht : tolB eps = true) (hn : 1073741824 < n) : Calls Try.prog 19 #[.slice A n c, .int .i64 eps] W (CoFin [] 3 W) := by
 have KS := hide fun w => r_startE eps w (hide fun w => r_tolI eps w true ht)
 have d0 : decide ((1073741824 : Int) < (n : Int)) = true := decide_eq_true (by omega)
 unfold meC meR at *
 clear ht hn
 go_enter Try.func19, Try.ntmps19
 go_wp2_with (go_at_call 10; (with_reducible refine (KS.out _).mono ?_); rintro e w1 ⟨rfl, hE⟩; have E1 := hide hE; clear hE)
 go_ret2
 exact ⟨none, 0, rfl, OwnC.nil_ _ _, E1.out.trans (ext_alloc _ _)⟩
set_option maxHeartbeats 3200000 in
set_option maxRecDepth 100000 in
theorem r_allGe (A : Option Addr) (n c : Nat) (l : List Int) (eps : Int) (W : World) (he : Tol eps) (hl : TimesAt W A l) (hn : l.length = n) (hn2 : n ≤ 1073741824) : Calls Try.prog 19 #[.slice A n c, .int .i64 eps] W (CoFin ((allN eps l).map coN) 0 W) := by
 have KS := hide fun w => r_startE eps w (hide fun w => r_tolI eps w true (tolB_iff.2 he))
 have d0 : decide ((1073741824 : Int) < (n : Int)) = false := decide_eq_false (by omega)
 have Hl := hide hl
 have Hn := hide hn
 have He := hide he
 have HI := hide hl.1
 clear hl hn he
 unfold meC meR at KS
 go_enter Try.func19, Try.ntmps19
 go_upto_region 8 with (go_at_call 10; (with_reducible refine (KS.out _).mono ?_); rintro e w1 ⟨rfl, hE⟩; have E1 := hide (hE.trans (ext_alloc w1 (.cells #[.int .i64 eps, .int .i64 0, .int .i64 0, .int .i64 0, .bool (sg 0), .int .u64 (l0 0 : Int), .int .u64 (l1 0 : Int), .int .u64 (l2 0 : Int), .int .u64 (l3 0 : Int)] 27))); have P6 := hide (Blk.new w1 27 (stN eps none)); have L6 := hide hE.size; clear hE)
 obtain ⟨g, hg⟩ : ∃ g, w1.heap.size = g := ⟨_, rfl⟩
 obtain ⟨w2, hw2⟩ : ∃ w, w1.alloc (.cells #[.int .i64 eps, .int .i64 0, .int .i64 0, .int .i64 0, .bool (sg 0), .int .u64 (l0 0 : Int), .int .u64 (l1 0 : Int), .int .u64 (l2 0 : Int), .int .u64 (l3 0 : Int)] 27) = w := ⟨_, rfl⟩
 have P6 : Hid (Blk w2 g 27 (stN eps (stateN eps none (l.take 0)))) := by rw [← hw2, ← hg]; exact P6
 rw [hw2] at E1
 rw [hg] at L6
 rw [hw2, hg]
 clear hw2 hg KS
 go_loopw [8, 9, 10] (fun ov iv _ wr => ∃ i : Nat, i ≤ n ∧ iv = .int .i64 (i : Int) ∧ Hid (OwnC (g + 1) wr ov ((doneN eps none (l.take i)).map coN)) ∧ Hid (Blk wr g 27 (stN eps (stateN eps none (l.take i)))) ∧ Hid (Ext W wr)) (fun _ iv _ _ => n - (intOf iv).toNat)
 case atStart => exact ⟨0, by omega, rfl, hide (OwnC.nil_ _ _), P6, E1⟩
 case round =>
   clear P6 E1
   obtain ⟨i, hi, rfl, HO, HP, HE⟩ := hrel
   by_cases hlt : i < n
   · have d1 : decide ((i : Int) < (n : Int)) = true := decide_eq_true (by omega)
     have him : i < l.length := by rw [Hn.out]; exact hlt
     obtain ⟨bm, om, rfl, _, hc⟩ := (Hl.out.ext HE.out).2.2 (by omega)
     have ct := hc i him
     have ix := fun w => idxT bm om n c i hlt w
     have hv : l[i]? = some (l.getD i 0) := by rw [List.getElem?_eq_getElem him]; simp [List.getD_eq_getElem?_getD, him]
     have iv := HI.out.get i
     obtain ⟨hdone, hst⟩ := done_snocN eps hv
     obtain ⟨hok, hcnt⟩ := state_atV He.out HI.out (by rw [Hn.out]; exact hn2) i (by omega)
     have hlen := doneN_le eps (l.take i) none
     rw [List.length_take] at hlen
     obtain ⟨v, hvv⟩ : ∃ v, l.getD i 0 = v := ⟨_, rfl⟩
     rw [hvv] at ct hv iv hdone hst
     have hne : ¬ cntN (stateN eps none (l.take i)) = 1073741824 := by omega
     have KS := fun w => r_stepFe eps (stateN eps none (l.take i)) v He.out hok iv w
     have ll := stepN_le eps (stateN eps none (l.take i)) v
     unfold stepFe at KS
     rw [if_neg hne] at KS
     obtain ⟨s, hs⟩ : ∃ s, stateN eps none (l.take i) = s := ⟨_, rfl⟩
     rw [hs] at KS hst HP ll hdone
     rw [← hst] at KS
     obtain ⟨T, hT⟩ : ∃ T, (doneN eps none (l.take i)).map coN = T := ⟨_, rfl⟩
     obtain ⟨q, hq⟩ : ∃ q, (stepN eps s v).2.map coN = q := ⟨_, rfl⟩
     have hdm : (doneN eps none (l.take (i + 1))).map coN = T ++ q := by rw [hdone, List.map_append, hT, hq]
     have hTl : T.length ≤ i := by rw [← hT, List.length_map]; omega
     have hql : q.length ≤ 1 := by rw [← hq, List.length_map]; exact ll
     rw [hT] at HO
     rw [hq] at KS
     obtain ⟨c0, lo0, hi0, z0, hr0⟩ := row_N eps s
     obtain ⟨c1, lo1, hi1, z1, hr1⟩ := row_N eps (stateN eps none (l.take (i + 1)))
     rw [hr0] at KS HP
     rw [hr1] at KS
     have KS := hide KS
     have Hr1 := hide hr1
     have Hdm := hide hdm
     have e0 : wr.cell? ⟨g, 0, none⟩ = some (.int .i64 eps) := HP.out.cell 0
     have e1 : wr.cell? ⟨g, 1, none⟩ = some (.int .i64 c0) := HP.out.cell 1
     have e2 : wr.cell? ⟨g, 2, none⟩ = some (.int .i64 lo0) := HP.out.cell 2
     have e3 : wr.cell? ⟨g, 3, none⟩ = some (.int .i64 hi0) := HP.out.cell 3
     have e4 : wr.cell? ⟨g, 4, none⟩ = some (.bool (sg z0)) := HP.out.cell 4
     have e5 : wr.cell? ⟨g, 5, none⟩ = some (.int .u64 (l0 z0 : Int)) := HP.out.cell 5
     have e6 : wr.cell? ⟨g, 6, none⟩ = some (.int .u64 (l1 z0 : Int)) := HP.out.cell 6
     have e7 : wr.cell? ⟨g, 7, none⟩ = some (.int .u64 (l2 z0 : Int)) := HP.out.cell 7
     have e8 : wr.cell? ⟨g, 8, none⟩ = some (.int .u64 (l3 z0 : Int)) := HP.out.cell 8
     have hgW := HP.out.lt
     unfold meC meR at KS
     clear hc hvv hv hdone hst hok hcnt hlen hne ll hs hT hq hr0 hr1 hdm
     go_upto_region 11 with fail
     go_region_law (first
       | (go_simp; go_at_call 24; (with_reducible refine (KS.out _).mono ?_); rintro e w6 ⟨A6, k6, rfl, hO6, hE6⟩; have O6 := hide ((HO.out.ext (ext_drew wr)).ext hE6); have Q6 := hide hO6; have E6 := hide ((HE.out.trans (ext_drew wr)).trans hE6); have P7 : Hid (Blk w6 g 27 (meC eps c0 lo0 hi0 z0)) := hide ((HP.out.ext (ext_drew wr)).ext hE6); have z6 := hE6.size; have s0 : w6.cell? ⟨g, 0, none⟩ = some (.int .i64 eps) := P7.out.cell 0; have s1 : w6.cell? ⟨g, 1, none⟩ = some (.int .i64 c0) := P7.out.cell 1; have s2 : w6.cell? ⟨g, 2, none⟩ = some (.int .i64 lo0) := P7.out.cell 2; have s3 : w6.cell? ⟨g, 3, none⟩ = some (.int .i64 hi0) := P7.out.cell 3; have s4 : w6.cell? ⟨g, 4, none⟩ = some (.bool (sg z0)) := P7.out.cell 4; have s5 : w6.cell? ⟨g, 5, none⟩ = some (.int .u64 (l0 z0 : Int)) := P7.out.cell 5; have s6 : w6.cell? ⟨g, 6, none⟩ = some (.int .u64 (l1 z0 : Int)) := P7.out.cell 6; have s7 : w6.cell? ⟨g, 7, none⟩ = some (.int .u64 (l2 z0 : Int)) := P7.out.cell 7; have s8 : w6.cell? ⟨g, 8, none⟩ = some (.int .u64 (l3 z0 : Int)) := P7.out.cell 8; have f0 := P7.out.frozen 0; have f1 := P7.out.frozen 1; have f2 := P7.out.frozen 2; have f3 := P7.out.frozen 3; have f4 := P7.out.frozen 4; have f5 := P7.out.frozen 5; have f6 := P7.out.frozen 6; have f7 := P7.out.frozen 7; have f8 := P7.out.frozen 8; clear hO6 hE6))
     all_goals
       have U9 := upd9 w6 g eps c1 lo1 hi1 z1
       have P9 := blk9 (t' := eps) (c' := c1) (lo' := lo1) (hi' := hi1) (z' := z1) P7.out
       have O9 := O6.out.upd U9 (Nat.lt_succ_self g)
       have Q9 := own_co (Q6.out.upd U9 (show g < wr.drew.heap.size from hgW))
       have E9 := U9.ext E6.out L6.out
       have hz9 : g + 1 ≤ w6.heap.size := Nat.le_trans hgW z6
       have hz9 := Nat.le_trans hz9 U9.2.2.2.1
       obtain ⟨w9, hw9⟩ : ∃ w, (((((((((w6.setCell ⟨g, 0, none⟩ (.int .i64 eps)).setCell ⟨g, 1, none⟩ (.int .i64 c1)).setCell ⟨g, 2, none⟩ (.int .i64 lo1)).setCell ⟨g, 3, none⟩ (.int .i64 hi1)).setCell ⟨g, 4, none⟩ (.bool (sg z1))).setCell ⟨g, 5, none⟩ (.int .u64 (l0 z1 : Int))).setCell ⟨g, 6, none⟩ (.int .u64 (l1 z1 : Int))).setCell ⟨g, 7, none⟩ (.int .u64 (l2 z1 : Int))).setCell ⟨g, 8, none⟩ (.int .u64 (l3 z1 : Int))) = w := ⟨_, rfl⟩
       rw [hw9] at P9 O9 Q9 E9 hz9 ⊢
       have P9 : Blk w9 g 27 (stN eps (stateN eps none (l.take (i + 1)))) := by rw [Hr1.out]; exact P9
       have P9 := hide P9
       have O9 := hide O9
       have Q9 := hide Q9
       have E9 := hide E9
       have hle : T.length + q.length ≤ 8796093022208 := by omega
       clear hw9 U9 O6 Q6 E6 P7 s0 s1 s2 s3 s4 s5 s6 s7 s8 f0 f1 f2 f3 f4 f5 f6 f7 f8 e0 e1 e2 e3 e4 e5 e6 e7 e8 HO HP HE KS ct Hr1
       go_wp2_with (at_builtin; refine wl_appendC rfl (.tmp 40) (.tmp 41) rfl (g + 1) _ T q rfl O9.out A6 _ k6 rfl Q9.out rfl hle hz9 ?_; intro v10 w10 hO10 hG10 hA10)
       have B10 : Below (g + 1) w9 w10 := (Below.refl (g + 1) w9).grown hG10 hz9 (fun k hk => (O9.out.1.lt k hk).1)
       have P10 := hide (show Blk w10 g _ _ from (B10.block g (Nat.lt_succ_self g)).trans P9.out)
       have O10 : Hid (OwnC (g + 1) w10 v10 ((doneN eps none (l.take (i + 1))).map coN)) := by show OwnC _ _ _ _; rw [Hdm.out]; exact hO10
       have E10 := hide (below_grownC E9.out (Nat.le_succ_of_le L6.out) O9.out hG10)
       clear hO10 hG10 hA10 B10 P9 O9 Q9 E9
       go_roundw
       case rel => exact ⟨i + 1, by omega, by go_num, O10, P10, E10⟩
       case measure => simp [intOf]; omega
   · obtain rfl : i = n := by omega
     have d1 : decide ((i : Int) < (i : Int)) = false := decide_eq_false (by omega)
     have hli : l.take i = l := List.take_of_length_le (by rw [Hn.out]; omega)
     rw [hli] at HO HP
     obtain ⟨hok, _⟩ := state_atV He.out HI.out (by rw [Hn.out]; exact hn2) l.length (by omega)
     rw [List.take_length] at hok
     have hdl := doneN_le eps l none
     have KF := fun w => r_finSe eps (stateN eps none l) He.out hok w
     have ld := ld_all HP.out uMean rfl iMean (stN_size _ _)
     have hel := endN_le (stateN eps none l)
     rw [← List.length_map (f := coN)] at hel
     have hal : (allN eps l).map coN = (doneN eps none l).map coN ++ (endN (stateN eps none l)).map coN := by unfold allN; rw [List.map_append]
     obtain ⟨q, hq⟩ : ∃ q, (endN (stateN eps none l)).map coN = q := ⟨_, rfl⟩
     obtain ⟨T, hT⟩ : ∃ T, (doneN eps none l).map coN = T := ⟨_, rfl⟩
     rw [hq] at KF hel
     rw [hT] at HO
     have hTl : T.length ≤ i := by have := Hn.out; rw [← hT, List.length_map]; omega
     rw [hq, hT] at hal
     have Hal := hide hal
     obtain ⟨X, hX⟩ : ∃ X, stN eps (stateN eps none l) = X := ⟨_, rfl⟩
     rw [hX] at KF ld HP
     have KF := hide KF
     have hle : T.length + q.length ≤ 8796093022208 := by omega
     have hgW := HP.out.lt
     clear hok hdl hq hT hX hal hli
     go_wp2_with (first
       | (refine wl_load (by kernel_rfl) rfl rfl ld ?_)
       | (go_at_call 37; (with_reducible refine (KF.out _).mono ?_); rintro e w6 ⟨A6, k6, rfl, hO6, hE6⟩; have O6 := hide (HO.out.ext hE6); have Q6 := hide (own_co hO6); have E6 := hide (HE.out.trans hE6); have hz6 : g + 1 ≤ w6.heap.size := (Nat.le_trans hgW hE6.size); clear hO6 hE6 ld)
       | (at_builtin; refine wl_appendC rfl (.tmp 48) (.tmp 49) rfl (g + 1) _ T q rfl O6.out A6 _ k6 rfl Q6.out rfl hle hz6 ?_; intro v10 w10 hO10 hG10 hA10; have E10 := hide (below_grownC E6.out (Nat.le_succ_of_le L6.out) O6.out hG10); have O10 := hide hO10; clear hO10 hG10 hA10))
     obtain ⟨A1, c1, rfl, _, _, _⟩ := O10.out.at_
     go_ret2
     rw [Hal.out]
     exact ⟨A1, c1, rfl, O10.out.less (Nat.le_succ_of_le L6.out), E10.out⟩
theorem r_allNF (A : Option Addr) (n c : Nat) (l : List Int) (eps : Int) (W : World) (hl : TimesAt W A l) (hn : l.length = n) : Calls Try.prog 19 #[.slice A n c, .int .i64 eps] W (CoFin (allNF eps l).1 (allNF eps l).2 W) := by
 unfold allNF
 cases ht : tolB eps with
 | false => exact r_allTe A n c eps W ht
 | true =>
   rw [if_pos rfl]
   by_cases h : 1073741824 < l.length
   · rw [if_pos h]
     exact r_allLe A n c eps W ht (by omega)
   · rw [if_neg h]
     exact r_allGe A n c l eps W (tolB_iff.1 ht) hl hn (by omega)
end
section
open Go Go.RowKit Go.Sort
set_option maxHeartbeats 6400000 in
set_option maxRecDepth 100000 in
theorem p_segAll (A : Option Addr) (n c : Nat) (l : List Int) (eps : Int) (W : World) (he : Tol eps) (hl : TimesAt W A l) (hn : l.length = n) (hn2 : n ≤ 1073741824) : Calls Try.prog 43 #[.agg sgN, .agg (meC eps 0 0 0 0), .slice A n c] W (CoGet ((allN eps l).map coN) W) := by
 have hen : ∀ a w, (callFunc 52 a).run Try.prog w = .ok (.enter 52 a) w := fun a w => by go_simp
 have P4 := Blk.new (W.alloc (.cells sgN 86)) 27 (meC eps 0 0 0 0)
 have P3 := (Blk.new W 86 sgN).alloc (.cells (meC eps 0 0 0 0) 27)
 rw [alloc_size] at P4
 have EE := (ext_alloc W (.cells sgN 86)).trans (ext_alloc _ (.cells (meC eps 0 0 0 0) 27))
 have hgs : W.heap.size + 2 = ((W.alloc (.cells sgN 86)).alloc (.cells (meC eps 0 0 0 0) 27)).heap.size := by rw [alloc_size, alloc_size]
 obtain ⟨g, hg⟩ : ∃ g, W.heap.size = g := ⟨_, rfl⟩
 obtain ⟨w2, hw2⟩ : ∃ w, (W.alloc (.cells sgN 86)).alloc (.cells (meC eps 0 0 0 0) 27) = w := ⟨_, rfl⟩
 rw [hw2] at P3 P4 EE hgs
 rw [hg] at P3 P4 hgs
 have P3 := hide P3
 have P4 : Hid (Blk w2 (g + 1) 27 (stN eps (stateN eps none (l.take 0)))) := hide P4
 have EE := hide EE
 have HW := hide hw2
 have Hg := hide hg
 have Hl := hide hl
 have Hn := hide hn
 have He := hide he
 have HI := hide hl.1
 clear hl hn he hw2 hg
 go_enter Try.func43, Try.ntmps43
 go_upto_region 1 with fail
 rw [HW.out, Hg.out]
 clear HW
 go_upto_region 3 with fail
 go_loopw [7, 9, 10, 11, 14] (fun ov _ _ _ iv wr => ∃ i : Nat, i ≤ n ∧ iv = .int .i64 (i : Int) ∧ Hid (OwnC (g + 2) wr ov ((doneN eps none (l.take i)).map coN)) ∧ Hid (Blk wr (g + 1) 27 (stN eps (stateN eps none (l.take i)))) ∧ Hid (Blk wr g 86 sgN) ∧ Hid (Ext W wr) ∧ g + 2 ≤ wr.heap.size) (fun _ _ _ _ iv _ => n - (intOf iv).toNat)
 case atStart => exact ⟨0, by omega, rfl, hide (OwnC.nil_ _ _), P4, P3, EE, by omega⟩
 case round =>
   clear P3 P4 EE hgs
   obtain ⟨i, hi, rfl, HO, HP, HS, HE, hgr⟩ := hrel
   by_cases hlt : i < n
   · have d1 : decide ((i : Int) < (n : Int)) = true := decide_eq_true (by omega)
     have him : i < l.length := by rw [Hn.out]; exact hlt
     obtain ⟨bm, om, rfl, _, hc⟩ := (Hl.out.ext HE.out).2.2 (by omega)
     have ct := hc i him
     have ix := fun w => idxT bm om n c i hlt w
     have hv : l[i]? = some (l.getD i 0) := by rw [List.getElem?_eq_getElem him]; simp [List.getD_eq_getElem?_getD, him]
     have iv := HI.out.get i
     obtain ⟨hdone, hst⟩ := done_snocN eps hv
     obtain ⟨hok, hcnt⟩ := state_atV He.out HI.out (by rw [Hn.out]; exact hn2) i (by omega)
     have hlen := doneN_le eps (l.take i) none
     rw [List.length_take] at hlen
     obtain ⟨v, hvv⟩ : ∃ v, l.getD i 0 = v := ⟨_, rfl⟩
     rw [hvv] at ct hv iv hdone hst
     have KS := fun w => p_segS eps (stateN eps none (l.take i)) v He.out hok (by omega) iv w
     have ll := stepN_le eps (stateN eps none (l.take i)) v
     obtain ⟨s, hs⟩ : ∃ s, stateN eps none (l.take i) = s := ⟨_, rfl⟩
     rw [hs] at KS hst HP ll hdone
     rw [← hst] at KS
     obtain ⟨T, hT⟩ : ∃ T, (doneN eps none (l.take i)).map coN = T := ⟨_, rfl⟩
     obtain ⟨q, hq⟩ : ∃ q, (stepN eps s v).2.map coN = q := ⟨_, rfl⟩
     have hdm : (doneN eps none (l.take (i + 1))).map coN = T ++ q := by rw [hdone, List.map_append, hT, hq]
     have hTl : T.length ≤ i := by rw [← hT, List.length_map]; omega
     have hql : q.length ≤ 1 := by rw [← hq, List.length_map]; exact ll
     rw [hT] at HO
     rw [hq] at KS
     obtain ⟨c0, lo0, hi0, z0, hr0⟩ := row_N eps s
     obtain ⟨c1, lo1, hi1, z1, hr1⟩ := row_N eps (stateN eps none (l.take (i + 1)))
     rw [hr0] at KS HP
     rw [hr1] at KS
     have Hr1 := hide hr1
     have Hdm := hide hdm
     have KS : Hid (∀ w, Calls Try.prog 51 #[.agg sgN, .agg (meC eps c0 lo0 hi0 z0), .int .i64 v] w (CoPair #[.int .i64 eps, .int .i64 c1, .int .i64 lo1, .int .i64 hi1, .bool (sg z1), .int .u64 (l0 z1 : Int), .int .u64 (l1 z1 : Int), .int .u64 (l2 z1 : Int), .int .u64 (l3 z1 : Int)] q w)) := hide KS
     have hle : T.length + q.length ≤ 8796093022208 := by omega
     have ld3 := ld_all HS.out uSgn rfl iSgn rfl
     have ld4 := ld_all HP.out uMean rfl iMean (meX_of _ _ _ _ _).s
     clear hc hvv hv hdone hst hok hcnt hlen ll hs hT hq hr0 hr1 hdm
     go_upto_region 6 with (first
       | (refine wl_load (by kernel_rfl) rfl rfl ld3 ?_)
       | (refine wl_load (by kernel_rfl) rfl rfl ld4 ?_)
       | (go_at_call 51; (with_reducible refine (KS.out _).mono ?_); rintro e w6 ⟨A6, k6, rfl, hO6, hE6⟩))
     have E7 := hE6.trans (ext_alloc w6 (.cells #[.int .i64 eps, .int .i64 c1, .int .i64 lo1, .int .i64 hi1, .bool (sg z1), .int .u64 (l0 z1 : Int), .int .u64 (l1 z1 : Int), .int .u64 (l2 z1 : Int), .int .u64 (l3 z1 : Int)] 27))
     have P10 := Blk.new w6 27 #[.int .i64 eps, .int .i64 c1, .int .i64 lo1, .int .i64 hi1, .bool (sg z1), .int .u64 (l0 z1 : Int), .int .u64 (l1 z1 : Int), .int .u64 (l2 z1 : Int), .int .u64 (l3 z1 : Int)]
     have hn10 : w6.heap.size < (w6.alloc (.cells #[.int .i64 eps, .int .i64 c1, .int .i64 lo1, .int .i64 hi1, .bool (sg z1), .int .u64 (l0 z1 : Int), .int .u64 (l1 z1 : Int), .int .u64 (l2 z1 : Int), .int .u64 (l3 z1 : Int)] 27)).heap.size := by rw [alloc_size]; exact Nat.lt_succ_self _
     have O7 := HO.out.ext E7
     have Q7 := (hO6.alloc (.cells #[.int .i64 eps, .int .i64 c1, .int .i64 lo1, .int .i64 hi1, .bool (sg z1), .int .u64 (l0 z1 : Int), .int .u64 (l1 z1 : Int), .int .u64 (l2 z1 : Int), .int .u64 (l3 z1 : Int)] 27))
     have hz6 := hE6.size
     obtain ⟨g10, hg10⟩ : ∃ k, w6.heap.size = k := ⟨_, rfl⟩
     obtain ⟨w7, hw7⟩ : ∃ w, w6.alloc (.cells #[.int .i64 eps, .int .i64 c1, .int .i64 lo1, .int .i64 hi1, .bool (sg z1), .int .u64 (l0 z1 : Int), .int .u64 (l1 z1 : Int), .int .u64 (l2 z1 : Int), .int .u64 (l3 z1 : Int)] 27) = w := ⟨_, rfl⟩
     rw [hw7] at E7 O7 Q7 hn10
     rw [hw7, hg10] at P10
     rw [hg10] at hz6 hn10
     rw [hw7, hg10]
     have S7 := hide (HS.out.ext E7)
     have P7 : Hid (Blk w7 (g + 1) 27 (meC eps c0 lo0 hi0 z0)) := hide (HP.out.ext E7)
     have P10 : Hid (Blk w7 g10 27 (meC eps c1 lo1 hi1 z1)) := hide P10
     have O7 := hide O7
     have Q7 := hide Q7
     have E8 := hide (HE.out.trans E7)
     have hz7 : g + 2 ≤ w7.heap.size := by omega
     have hob : ∀ k, Value.ownBlock _ = some k → g + 2 ≤ k ∧ k < g10 := fun k hk => by have := HO.out.1.lt k hk; exact ⟨this.1, Nat.lt_of_lt_of_le this.2 hz6⟩
     clear hw7 hg10 hE6 hO6 ld3 ld4 KS HO HP HS HE ct E7
     have s0 : w7.drew.cell? ⟨g + 1, 0, none⟩ = some (.int .i64 eps) := P7.out.cell 0
     have s1 : w7.drew.cell? ⟨g + 1, 1, none⟩ = some (.int .i64 c0) := P7.out.cell 1
     have s2 : w7.drew.cell? ⟨g + 1, 2, none⟩ = some (.int .i64 lo0) := P7.out.cell 2
     have s3 : w7.drew.cell? ⟨g + 1, 3, none⟩ = some (.int .i64 hi0) := P7.out.cell 3
     have s4 : w7.drew.cell? ⟨g + 1, 4, none⟩ = some (.bool (sg z0)) := P7.out.cell 4
     have s5 : w7.drew.cell? ⟨g + 1, 5, none⟩ = some (.int .u64 (l0 z0 : Int)) := P7.out.cell 5
     have s6 : w7.drew.cell? ⟨g + 1, 6, none⟩ = some (.int .u64 (l1 z0 : Int)) := P7.out.cell 6
     have s7 : w7.drew.cell? ⟨g + 1, 7, none⟩ = some (.int .u64 (l2 z0 : Int)) := P7.out.cell 7
     have s8 : w7.drew.cell? ⟨g + 1, 8, none⟩ = some (.int .u64 (l3 z0 : Int)) := P7.out.cell 8
     have f0 := P7.out.frozen 0
     have f1 := P7.out.frozen 1
     have f2 := P7.out.frozen 2
     have f3 := P7.out.frozen 3
     have f4 := P7.out.frozen 4
     have f5 := P7.out.frozen 5
     have f6 := P7.out.frozen 6
     have f7 := P7.out.frozen 7
     have f8 := P7.out.frozen 8
     have e0 : w7.drew.cell? ⟨g10, 0, none⟩ = some (.int .i64 eps) := P10.out.cell 0
     have e1 : w7.drew.cell? ⟨g10, 1, none⟩ = some (.int .i64 c1) := P10.out.cell 1
     have e2 : w7.drew.cell? ⟨g10, 2, none⟩ = some (.int .i64 lo1) := P10.out.cell 2
     have e3 : w7.drew.cell? ⟨g10, 3, none⟩ = some (.int .i64 hi1) := P10.out.cell 3
     have e4 : w7.drew.cell? ⟨g10, 4, none⟩ = some (.bool (sg z1)) := P10.out.cell 4
     have e5 : w7.drew.cell? ⟨g10, 5, none⟩ = some (.int .u64 (l0 z1 : Int)) := P10.out.cell 5
     have e6 : w7.drew.cell? ⟨g10, 6, none⟩ = some (.int .u64 (l1 z1 : Int)) := P10.out.cell 6
     have e7 : w7.drew.cell? ⟨g10, 7, none⟩ = some (.int .u64 (l2 z1 : Int)) := P10.out.cell 7
     have e8 : w7.drew.cell? ⟨g10, 8, none⟩ = some (.int .u64 (l3 z1 : Int)) := P10.out.cell 8
     go_region_law (refine step_appendC rfl (.tmp 26) (.tmp 27) rfl (g + 2) _ T q rfl A6 _ k6 rfl O7.out.drew (own_co Q7.out.drew) rfl hle hz7 ?_; intro v10 w10 hO10 hG10 hA10; have B10 : Below (g + 2) w7.drew w10 := (Below.refl (g + 2) w7.drew).grown hG10 hz7 (fun k hk => (hob k hk).1); have R7 : Hid (Blk w10 (g + 1) 27 (meC eps c0 lo0 hi0 z0)) := hide ((B10.block (g + 1) (Nat.lt_succ_self (g + 1))).trans P7.out); have R3 : Hid (Blk w10 g 86 sgN) := hide ((B10.block g (by omega)).trans S7.out); have R10 : Hid (Blk w10 g10 27 (meC eps c1 lo1 hi1 z1)) := hide ((hG10.block g10 hn10 (fun e => by have := hob g10 e.symm; omega)).trans P10.out); have E10 := hide (below_grownC (B := g + 2) (E8.out.trans (ext_drew _)) (by rw [Hg.out]; omega) O7.out.drew hG10); have O10 := hide hO10; have r0 : w10.cell? ⟨g + 1, 0, none⟩ = some (.int .i64 eps) := R7.out.cell 0; have r1 : w10.cell? ⟨g + 1, 1, none⟩ = some (.int .i64 c0) := R7.out.cell 1; have r2 : w10.cell? ⟨g + 1, 2, none⟩ = some (.int .i64 lo0) := R7.out.cell 2; have r3 : w10.cell? ⟨g + 1, 3, none⟩ = some (.int .i64 hi0) := R7.out.cell 3; have r4 : w10.cell? ⟨g + 1, 4, none⟩ = some (.bool (sg z0)) := R7.out.cell 4; have r5 : w10.cell? ⟨g + 1, 5, none⟩ = some (.int .u64 (l0 z0 : Int)) := R7.out.cell 5; have r6 : w10.cell? ⟨g + 1, 6, none⟩ = some (.int .u64 (l1 z0 : Int)) := R7.out.cell 6; have r7 : w10.cell? ⟨g + 1, 7, none⟩ = some (.int .u64 (l2 z0 : Int)) := R7.out.cell 7; have r8 : w10.cell? ⟨g + 1, 8, none⟩ = some (.int .u64 (l3 z0 : Int)) := R7.out.cell 8; have h0 := R7.out.frozen 0; have h1 := R7.out.frozen 1; have h2 := R7.out.frozen 2; have h3 := R7.out.frozen 3; have h4 := R7.out.frozen 4; have h5 := R7.out.frozen 5; have h6 := R7.out.frozen 6; have h7 := R7.out.frozen 7; have h8 := R7.out.frozen 8; have x0 : w10.cell? ⟨g10, 0, none⟩ = some (.int .i64 eps) := R10.out.cell 0; have x1 : w10.cell? ⟨g10, 1, none⟩ = some (.int .i64 c1) := R10.out.cell 1; have x2 : w10.cell? ⟨g10, 2, none⟩ = some (.int .i64 lo1) := R10.out.cell 2; have x3 : w10.cell? ⟨g10, 3, none⟩ = some (.int .i64 hi1) := R10.out.cell 3; have x4 : w10.cell? ⟨g10, 4, none⟩ = some (.bool (sg z1)) := R10.out.cell 4; have x5 : w10.cell? ⟨g10, 5, none⟩ = some (.int .u64 (l0 z1 : Int)) := R10.out.cell 5; have x6 : w10.cell? ⟨g10, 6, none⟩ = some (.int .u64 (l1 z1 : Int)) := R10.out.cell 6; have x7 : w10.cell? ⟨g10, 7, none⟩ = some (.int .u64 (l2 z1 : Int)) := R10.out.cell 7; have x8 : w10.cell? ⟨g10, 8, none⟩ = some (.int .u64 (l3 z1 : Int)) := R10.out.cell 8; clear hO10 hG10 hA10 B10)
     all_goals
       have U9 := upd9 w10 (g + 1) eps c1 lo1 hi1 z1
       have P9 := blk9 (t' := eps) (c' := c1) (lo' := lo1) (hi' := hi1) (z' := z1) R7.out
       have O9 := O10.out.upd U9 (Nat.lt_succ_self (g + 1))
       have S9 := hide ((U9.2.2.2.2 g R3.out.lt (by omega)).trans R3.out)
       have E9 := U9.ext E10.out (by rw [Hg.out]; omega)
       have hz9 : g + 2 ≤ w10.heap.size := R7.out.lt
       have hz9 := Nat.le_trans hz9 U9.2.2.2.1
       obtain ⟨w9, hw9⟩ : ∃ w, (((((((((w10.setCell ⟨g + 1, 0, none⟩ (.int .i64 eps)).setCell ⟨g + 1, 1, none⟩ (.int .i64 c1)).setCell ⟨g + 1, 2, none⟩ (.int .i64 lo1)).setCell ⟨g + 1, 3, none⟩ (.int .i64 hi1)).setCell ⟨g + 1, 4, none⟩ (.bool (sg z1))).setCell ⟨g + 1, 5, none⟩ (.int .u64 (l0 z1 : Int))).setCell ⟨g + 1, 6, none⟩ (.int .u64 (l1 z1 : Int))).setCell ⟨g + 1, 7, none⟩ (.int .u64 (l2 z1 : Int))).setCell ⟨g + 1, 8, none⟩ (.int .u64 (l3 z1 : Int))) = w := ⟨_, rfl⟩
       rw [hw9] at P9 O9 S9 E9 hz9 ⊢
       have P9 : Hid (Blk w9 (g + 1) 27 (stN eps (stateN eps none (l.take (i + 1))))) := by show Blk _ _ _ _; rw [Hr1.out]; exact P9
       have O9 : Hid (OwnC (g + 2) w9 v10 ((doneN eps none (l.take (i + 1))).map coN)) := by show OwnC _ _ _ _; rw [Hdm.out]; exact O9
       have S9 : Hid (Blk w9 g 86 sgN) := S9
       have E9 := hide E9
       clear hw9 U9 R7 R3 R10 O10 E10 P7 P10 S7 O7 Q7 E8 s0 s1 s2 s3 s4 s5 s6 s7 s8 f0 f1 f2 f3 f4 f5 f6 f7 f8 e0 e1 e2 e3 e4 e5 e6 e7 e8 r0 r1 r2 r3 r4 r5 r6 r7 r8 h0 h1 h2 h3 h4 h5 h6 h7 h8 x0 x1 x2 x3 x4 x5 x6 x7 x8 Hr1 Hdm
       go_wp2_with fail
       go_roundw
       case rel => exact ⟨i + 1, by omega, by go_num, O9, P9, S9, E9, hz9⟩
       case measure => simp [intOf]; omega
   · obtain rfl : i = n := by omega
     have d1 : decide ((i : Int) < (i : Int)) = false := decide_eq_false (by omega)
     have hli : l.take i = l := List.take_of_length_le (by rw [Hn.out]; omega)
     rw [hli] at HO HP
     obtain ⟨hok, _⟩ := state_atV He.out HI.out (by rw [Hn.out]; exact hn2) l.length (by omega)
     rw [List.take_length] at hok
     have hdl := doneN_le eps l none
     have KF := fun w => p_endV eps (stateN eps none l) hok w
     have ld := ld_all HP.out uMean rfl iMean (stN_size _ _)
     have cf : wr.cell? ⟨g, 2, none⟩ = some (.func (.func 52) #[] #[]) := HS.out.cell 2
     have hel := endN_le (stateN eps none l)
     rw [← List.length_map (f := coN)] at hel
     have hal : (allN eps l).map coN = (doneN eps none l).map coN ++ (endN (stateN eps none l)).map coN := by unfold allN; rw [List.map_append]
     obtain ⟨q, hq⟩ : ∃ q, (endN (stateN eps none l)).map coN = q := ⟨_, rfl⟩
     obtain ⟨T, hT⟩ : ∃ T, (doneN eps none l).map coN = T := ⟨_, rfl⟩
     rw [hq] at KF hel
     rw [hT] at HO
     have hTl : T.length ≤ i := by have := Hn.out; rw [← hT, List.length_map]; omega
     rw [hq, hT] at hal
     have Hal := hide hal
     obtain ⟨X, hX⟩ : ∃ X, stN eps (stateN eps none l) = X := ⟨_, rfl⟩
     rw [hX] at KF ld HP
     have KF := hide KF
     have hle : T.length + q.length ≤ 8796093022208 := by omega
     clear hok hdl hq hT hX hal hli
     go_wp2_with (refine wl_load (by kernel_rfl) rfl rfl ld ?_)
     (with_reducible refine (KF.out _).mono ?_)
     rintro e w6 ⟨A6, k6, rfl, hO6, hE6⟩
     have O6 := hide (HO.out.ext hE6)
     have Q6 := hide (own_co hO6)
     have E6 := hide (HE.out.trans hE6)
     have hz6 : g + 2 ≤ w6.heap.size := (Nat.le_trans hgr hE6.size)
     clear hO6 hE6 ld cf
     go_wp2_with (at_builtin; refine wl_appendC rfl (.tmp 30) (.tmp 34) rfl (g + 2) _ T q rfl O6.out A6 _ k6 rfl Q6.out rfl hle hz6 ?_; intro v10 w10 hO10 hG10 hA10; have E10 := hide (below_grownC (B := g + 2) E6.out (by rw [Hg.out]; omega) O6.out hG10); have O10 := hide hO10; clear hO10 hG10 hA10)
     obtain ⟨A1, c1, rfl, _, _, _⟩ := O10.out.at_
     go_ret
     rw [Hal.out]
     exact ⟨A1, c1, rfl, O10.out.less (by rw [Hg.out]; omega), E10.out⟩
theorem p_allTe (A : Option Addr) (n c : Nat) (eps : Int) (W : World) (ht : tolB eps = false) : Calls Try.prog 18 #[.slice A n c, .int .i64 eps] W (CoFin [] 9 W) := by
 have KS := hide fun w => p_startE_no eps w (hide fun w => pm_tol eps w false ht)
 unfold z9m at *
 clear ht
 go_enter Try.func18, Try.ntmps18
 go_wp2_with (go_at_call 9; (with_reducible refine (KS.out _).mono ?_); rintro e w1 ⟨rfl, hE⟩; have E1 := hide hE; clear hE)
 go_ret2
 exact ⟨none, 0, rfl, OwnC.nil_ _ _, E1.out.trans (ext_alloc _ _)⟩
theorem p_allLe (A : Option Addr) (n c : Nat) (eps : Int) (W : World) (ht : tolB eps = true) (hn : 1073741824 < n) : Calls Try.prog 18 #[.slice A n c, .int .i64 eps] W (CoFin [] 3 W) := by
 have KS := hide fun w => p_startE eps w (hide fun w => pm_tol eps w true ht)
 have d0 : decide ((1073741824 : Int) < (n : Int)) = true := decide_eq_true (by omega)
 unfold meC meR at *
 clear ht hn
 go_enter Try.func18, Try.ntmps18
 go_wp2_with (go_at_call 9; (with_reducible refine (KS.out _).mono ?_); rintro e w1 ⟨rfl, hE⟩; have E1 := hide hE; clear hE)
 go_ret2
 exact ⟨none, 0, rfl, OwnC.nil_ _ _, E1.out.trans (ext_alloc _ _)⟩
set_option maxHeartbeats 3200000 in
set_option maxRecDepth 100000 in
theorem p_allGe (A : Option Addr) (n c : Nat) (l : List Int) (eps : Int) (W : World) (he : Tol eps) (hl : TimesAt W A l) (hn : l.length = n) (hn2 : n ≤ 1073741824) : Calls Try.prog 18 #[.slice A n c, .int .i64 eps] W (CoFin ((allN eps l).map coN) 0 W) := by
 have KS := hide fun w => p_startE eps w (hide fun w => pm_tol eps w true (tolB_iff.2 he))
 have d0 : decide ((1073741824 : Int) < (n : Int)) = false := decide_eq_false (by omega)
 have KM := hide fun w => p_means w
 have KA : Hid (∀ w, Ext W w → Calls Try.prog 43 #[.agg sgN, .agg #[.int .i64 eps, .int .i64 0, .int .i64 0, .int .i64 0, .bool (sg 0), .int .u64 (l0 0 : Int), .int .u64 (l1 0 : Int), .int .u64 (l2 0 : Int), .int .u64 (l3 0 : Int)], .slice A n c] w (CoGet ((allN eps l).map coN) w)) := hide fun w h => p_segAll A n c l eps w he (hl.ext h) hn hn2
 obtain ⟨T, hT⟩ : ∃ T, (allN eps l).map coN = T := ⟨_, rfl⟩
 rw [hT] at KA ⊢
 clear hl hn he hT
 unfold meC meR at KS
 go_enter Try.func18, Try.ntmps18
 go_upto_region 6 with (go_at_call 9; (with_reducible refine (KS.out _).mono ?_); rintro e w1 ⟨rfl, hE⟩; have E1 := hide hE; clear hE)
 have P6 := Blk.new w1 27 #[.int .i64 eps, .int .i64 0, .int .i64 0, .int .i64 0, .bool (sg 0), .int .u64 (l0 0 : Int), .int .u64 (l1 0 : Int), .int .u64 (l2 0 : Int), .int .u64 (l3 0 : Int)]
 have E2 := hide (E1.out.trans (ext_alloc w1 (.cells #[.int .i64 eps, .int .i64 0, .int .i64 0, .int .i64 0, .bool (sg 0), .int .u64 (l0 0 : Int), .int .u64 (l1 0 : Int), .int .u64 (l2 0 : Int), .int .u64 (l3 0 : Int)] 27)))
 obtain ⟨g, hg⟩ : ∃ g, w1.heap.size = g := ⟨_, rfl⟩
 obtain ⟨w2, hw2⟩ : ∃ w, w1.alloc (.cells #[.int .i64 eps, .int .i64 0, .int .i64 0, .int .i64 0, .bool (sg 0), .int .u64 (l0 0 : Int), .int .u64 (l1 0 : Int), .int .u64 (l2 0 : Int), .int .u64 (l3 0 : Int)] 27) = w := ⟨_, rfl⟩
 rw [hw2, hg] at P6
 rw [hw2] at E2
 rw [hw2, hg]
 have P6 := hide P6
 clear hw2 hg E1
 have P6 : Hid (Blk w2 g 27 (meC eps 0 0 0 0)) := P6
 have s0 : w2.drew.cell? ⟨g, 0, none⟩ = some (.int .i64 eps) := P6.out.cell 0
 have s1 : w2.drew.cell? ⟨g, 1, none⟩ = some (.int .i64 0) := P6.out.cell 1
 have s2 : w2.drew.cell? ⟨g, 2, none⟩ = some (.int .i64 0) := P6.out.cell 2
 have s3 : w2.drew.cell? ⟨g, 3, none⟩ = some (.int .i64 0) := P6.out.cell 3
 have s4 : w2.drew.cell? ⟨g, 4, none⟩ = some (.bool (sg 0)) := P6.out.cell 4
 have s5 : w2.drew.cell? ⟨g, 5, none⟩ = some (.int .u64 (l0 0 : Int)) := P6.out.cell 5
 have s6 : w2.drew.cell? ⟨g, 6, none⟩ = some (.int .u64 (l1 0 : Int)) := P6.out.cell 6
 have s7 : w2.drew.cell? ⟨g, 7, none⟩ = some (.int .u64 (l2 0 : Int)) := P6.out.cell 7
 have s8 : w2.drew.cell? ⟨g, 8, none⟩ = some (.int .u64 (l3 0 : Int)) := P6.out.cell 8
 go_region_law (first
   | (go_simp; go_at_call 42; (with_reducible refine (KM.out _).mono ?_); rintro e w3 ⟨rfl, hE3⟩; have E3 := hide ((E2.out.trans (ext_drew w2)).trans hE3); have R6 : Hid (Blk w3 g 27 (meC eps 0 0 0 0)) := hide ((P6.out.ext (ext_drew w2)).ext hE3); have r0 : w3.cell? ⟨g, 0, none⟩ = some (.int .i64 eps) := R6.out.cell 0; have r1 : w3.cell? ⟨g, 1, none⟩ = some (.int .i64 0) := R6.out.cell 1; have r2 : w3.cell? ⟨g, 2, none⟩ = some (.int .i64 0) := R6.out.cell 2; have r3 : w3.cell? ⟨g, 3, none⟩ = some (.int .i64 0) := R6.out.cell 3; have r4 : w3.cell? ⟨g, 4, none⟩ = some (.bool (sg 0)) := R6.out.cell 4; have r5 : w3.cell? ⟨g, 5, none⟩ = some (.int .u64 (l0 0 : Int)) := R6.out.cell 5; have r6 : w3.cell? ⟨g, 6, none⟩ = some (.int .u64 (l1 0 : Int)) := R6.out.cell 6; have r7 : w3.cell? ⟨g, 7, none⟩ = some (.int .u64 (l2 0 : Int)) := R6.out.cell 7; have r8 : w3.cell? ⟨g, 8, none⟩ = some (.int .u64 (l3 0 : Int)) := R6.out.cell 8; have ka := hide (KA.out w3 E3.out); clear hE3)
   | (go_simp; go_at_call 43; (with_reducible refine (ka.out).mono ?_); rintro e w4 ⟨A4, k4, rfl, hO4, hE4⟩; have O4 := hide (hO4.less (B' := W.heap.size) E3.out.size); have E4 := hide (E3.out.trans hE4); clear hO4 hE4))
 all_goals go_wp2_with fail
 all_goals go_ret2
 all_goals exact ⟨A4, k4, rfl, O4.out, E4.out⟩
theorem p_allNF (A : Option Addr) (n c : Nat) (l : List Int) (eps : Int) (W : World) (hl : TimesAt W A l) (hn : l.length = n) : Calls Try.prog 18 #[.slice A n c, .int .i64 eps] W (CoFin (allNF eps l).1 (allNF eps l).2 W) := by
 unfold allNF
 cases ht : tolB eps with
 | false => exact p_allTe A n c eps W ht
 | true =>
   rw [if_pos rfl]
   by_cases h : 1073741824 < l.length
   · rw [if_pos h]
     exact p_allLe A n c eps W ht (by omega)
   · rw [if_neg h]
     exact p_allGe A n c l eps W (tolB_iff.1 ht) hl hn (by omega)
end
section
open Go Go.RowKit Go.Sort
theorem k16a : allNF 2 [0, 0, 0, 4] = ([(3, 0), (1, 4)], 0) := by decide +kernel
theorem k16b : allNF 2 [0, 3] = ([(2, 1)], 0) := by decide +kernel
set_option maxRecDepth 100000 in
theorem l_known16 (W : World) : Calls Try.prog 14 #[] W (Ret (.bool true) W) := by
 have E0 := hide (ext_alloc W (.cells #[.int .i64 0, .int .i64 0, .int .i64 0, .int .i64 4] 2))
 have H0 := new_atT W [0, 0, 0, 4] (by intro x hx; simp at hx; unfold I64; omega) (by simp) #[.int .i64 0, .int .i64 0, .int .i64 0, .int .i64 4] rfl
 have KA := p_allNF (some ⟨W.heap.size, 0, none⟩) 4 4 [0, 0, 0, 4] 2 _ H0 rfl
 rw [k16a] at KA
 have KA := hide KA
 have e1 := fun w => eqC2 3 0 3 0 w
 have e2 := fun w => eqC2 2 1 2 1 w
 clear H0
 go_enter Try.func14, Try.ntmps14
 go_upto_region 2 with (go_at_call 18; (with_reducible refine (KA.out).mono ?_); rintro e w1 ⟨A1, c1, rfl, hO, hE⟩)
 have E1 := hide (E0.out.trans hE)
 have O1 := hide (own_co hO)
 clear hO hE KA E0
 have E2 := hide (ext_alloc w1 (.cells #[.int .i64 0, .int .i64 3] 2))
 have H1 := new_atT w1 [0, 3] (by intro x hx; simp at hx; unfold I64; omega) (by simp) #[.int .i64 0, .int .i64 3] rfl
 have KB := p_allNF (some ⟨w1.heap.size, 0, none⟩) 2 2 [0, 3] 2 _ H1 rfl
 rw [k16b] at KB
 have KB := hide KB
 clear H1
 go_upto_region 3 with (go_at_call 18; (with_reducible refine (KB.out).mono ?_); rintro e w3 ⟨A3, c3, rfl, hO, hE⟩)
 have E3 := hide (E1.out.trans (E2.out.trans hE))
 obtain ⟨b1, o1, rfl, _, hc1⟩ := ((O1.out.ext E2.out).ext hE).2.2 (by simp)
 obtain ⟨b3, o3, rfl, _, hc3⟩ := (own_co hO).2.2 (by simp)
 have p0 : w3.cell? ⟨b1, o1, none⟩ = some (.int .i64 3) := (hc1 0 (by simp)).1
 have p1 : w3.cell? ⟨b1, o1 + 1, none⟩ = some (.int .i64 0) := (hc1 0 (by simp)).2
 have q0 : w3.cell? ⟨b3, o3, none⟩ = some (.int .i64 2) := (hc3 0 (by simp)).1
 have q1 : w3.cell? ⟨b3, o3 + 1, none⟩ = some (.int .i64 1) := (hc3 0 (by simp)).2
 have ix0 : ∀ w, (Instr.indexAt 46 (.slice (some ⟨b1, o1, none⟩) 2 c1) (.int .i64 0)).run Try.prog w = .ok (.pointer (some ⟨b1, o1, none⟩)) w := fun w => idxC b1 o1 2 c1 0 (by decide) w
 have ix1 : ∀ w, (Instr.indexAt 46 (.slice (some ⟨b3, o3, none⟩) 1 c3) (.int .i64 0)).run Try.prog w = .ok (.pointer (some ⟨b3, o3, none⟩)) w := fun w => idxC b3 o3 1 c3 0 (by decide) w
 clear hc1 hc3 hO hE KB O1 E1 E2
 go_wp2_with fail
 go_ret
 exact ⟨rfl, E3.out⟩
end
section
open Go Go.RowKit
def ValsPost (N B b : Nat) (W : World) (e : Ending) (w' : World) : Prop := ∃ A n cap l, e = .returned (.slice A n cap) ∧ l.length = n ∧ n ≤ N ∧ n ≤ cap ∧ cap ≤ 9223372036854775807 ∧ OwnT W.heap.size w' (.slice A n cap) l ∧ TapeOk B w' b ∧ Upd b W w'
set_option maxHeartbeats 3200000 in
set_option maxRecDepth 100000 in
theorem t_values (N B b : Nat) (hN : N ≤ 1000) (W : World) (hT : TapeOk B W b) : Calls Try.prog 16 #[.pointer (some ⟨b, 0, none⟩), .int .i64 (N : Int)] W (ValsPost N B b W) := by
 have KT := hide (t_samples N B b hN W hT)
 have hbW := hT.2.1
 clear hT
 go_enter Try.func16, Try.ntmps16
 go_upto_region 2 with (go_at_call 40; (with_reducible refine (KT.out).mono ?_); rintro e w1 ⟨Am, n, cap, m, rfl, hm, hnN, hncap, hncap2, -, hO, T1, u1⟩; have T1 := hide T1; have U1 := hide u1; have M1 := hide (own_samps hO); have Hm := hide hm; clear hO hm u1)
 have hB1 : W.heap.size ≤ w1.heap.size := U1.out.2.2.2.1
 have E1 : Hid (Ext w1 w1) := Ext.refl _
 have Hs := hide M1.out.1
 clear KT
 go_wp2_with fail
 go_loopw [6, 7] (fun lv iv wr => ∃ i : Nat, i ≤ n ∧ iv = .int .i64 (i : Int) ∧ Hid (OwnT w1.heap.size wr lv ((m.map Prod.snd).take i)) ∧ Hid (Ext w1 wr)) (fun _ iv _ => n - (intOf iv).toNat)
 case atStart => exact ⟨0, by omega, rfl, hide (OwnT.nil_ _ _), E1⟩
 case round =>
   clear E1
   obtain ⟨i, hi, rfl, HO, HE⟩ := hrel
   by_cases hlt : i < n
   · have d0 : decide ((i : Int) < (n : Int)) = true := decide_eq_true (by omega)
     have him : i < m.length := by rw [Hm.out]; exact hlt
     obtain ⟨bm, om, rfl, _, hc⟩ := (M1.out.ext HE.out).2.2 (by omega)
     have ct := (hc i him).2
     rw [← Nat.add_assoc] at ct
     have ix := fun w => idxS bm om n cap i hlt w
     have hst := takeT_succ (l := m.map Prod.snd) (k := i) (by rw [List.length_map]; exact him)
     have hget : (m.map Prod.snd).getD i 0 = (m.getD i (0, 0)).2 := by simp [List.getD_eq_getElem?_getD, him]
     have hx := (Hs.out.get i).2
     obtain ⟨x, hxx⟩ : ∃ x, (m.getD i (0, 0)).2 = x := ⟨_, rfl⟩
     rw [hxx] at ct hx hget
     rw [hget] at hst
     have hle : ((m.map Prod.snd).take i).length + [x].length ≤ 17592186044416 := by rw [List.length_take, List.length_map, Hm.out]; simp; omega
     have Hst := hide hst
     have O3 := hide (HO.out.alloc (.cells #[Value.int .i64 x] 2))
     have hone := hide (one_atT wr x hx _ rfl)
     have E3 := hide (Ext.trans HE.out (ext_alloc wr (.cells #[Value.int .i64 x] 2)))
     obtain ⟨T, hT⟩ : ∃ T, (m.map Prod.snd).take i = T := ⟨_, rfl⟩
     rw [hT] at O3 Hst hle
     clear hc him hst hget hxx hT HO HE
     go_wp2_with (at_builtin; refine wl_appendT rfl (.tmp 17) (.tmp 23) rfl w1.heap.size _ T [x] rfl O3.out _ 1 1 rfl hone.out rfl hle E3.out.size ?_; intro v6 w6 hO6 hG6 hA6)
     have O6 : Hid (OwnT w1.heap.size w6 v6 ((m.map Prod.snd).take (i + 1))) := by show OwnT _ _ _ _; rw [Hst.out]; exact hO6
     have E6 := hide (below_grownT E3.out (Nat.le_refl _) O3.out hG6)
     clear hO6 hG6 hA6 O3 E3
     go_roundw
     case rel => exact ⟨i + 1, by omega, by go_num, O6, E6⟩
     case measure => simp [intOf]; omega
   · obtain rfl : i = n := by omega
     have d0 : decide ((i : Int) < (i : Int)) = false := decide_eq_false (by omega)
     go_wp2_with fail
     go_ret
     have hO := HO.out
     rw [List.take_of_length_le (by rw [List.length_map, Hm.out]; omega)] at hO
     obtain ⟨A, c, hv, h1, h2, h3⟩ := hO.at_
     subst hv
     have hll : (m.map Prod.snd).length = i := by rw [List.length_map, Hm.out]
     exact ⟨A, _, c, _, rfl, rfl, by omega, h1, h2, hO.less hB1, T1.out.ext HE.out, U1.out.trans (Ext.upd HE.out b)⟩
end
section
open Go Go.RowKit Go.Sort
set_option maxRecDepth 100000 in
set_option maxHeartbeats 6400000 in
theorem law_ealls (A : Option Addr) (n c : Nat) (l : List Int) (eps : Int) (y : Option Addr) (len cap : Nat) (W : World) (hl : TimesAt W A l) (hn : l.length = n) (hL : IsList W y len cap) :
   Calls Try.prog 4 #[.slice A n c, .int .i64 eps, .slice y len cap] W (Ret (.bool true) W) := by
 have KN : Hid (Calls Try.prog 7 #[.slice y len cap] W (NewPost W)) := t_new W y len cap hL
 have KL : Hid (∀ w, TapeOk W.heap.size w W.heap.size → Calls Try.prog 16 #[.pointer (some ⟨W.heap.size, 0, none⟩), .int .i64 30] w (ValsPost 30 W.heap.size W.heap.size w)) := hide (fun w h => t_values 30 W.heap.size W.heap.size (by omega) w h)
 have KT : Hid (∀ w, TapeOk W.heap.size w W.heap.size → Calls Try.prog 17 #[.pointer (some ⟨W.heap.size, 0, none⟩)] w (NextPost W.heap.size W.heap.size Tol .i64 w)) := hide (fun w h => t_tol W.heap.size W.heap.size w w h (Upd.refl _ _))
 have KK := hide (fun w => l_known16 w)
 have HL := hide hl
 have Hn := hide hn
 obtain ⟨r, er, hr⟩ : ∃ r er, allNF eps l = (r, er) := ⟨_, _, rfl⟩
 have KP : Hid (∀ w, Ext W w → Calls Try.prog 18 #[.slice A n c, .int .i64 eps] w (CoFin r er w)) := hide (fun w h => by have := p_allNF A n c l eps w (HL.out.ext h) Hn.out; rwa [hr] at this)
 have KR : Hid (∀ w, Ext W w → Calls Try.prog 19 #[.slice A n c, .int .i64 eps] w (CoFin r er w)) := hide (fun w h => by have := r_allNF A n c l eps w (HL.out.ext h) Hn.out; rwa [hr] at this)
 clear hL hl hn hr
 go_enter Try.func4, Try.ntmps4
 go_upto_region 3 with (first
   | (go_at_call 7; (with_reducible refine (KN.out).mono ?_); rintro e w1 ⟨rfl, hT, hE⟩; have T1 := hide hT; have E1 := hide hE; have kl := hide (KL.out w1 hT); clear hT hE)
   | (go_at_call 16; (with_reducible refine (kl.out).mono ?_); rintro e w2 ⟨Am, nm, capm, m, rfl, hnm, hn30, hncap, hncap2, hO, hT2, hU2⟩; have hB2 : w1.heap.size ≤ w2.heap.size := hU2.2.2.2.1; have S2 := hide (Bt.of E1.out T1.out hO hT2 hU2); have kt := hide (KT.out w2 hT2); clear hO hT2 hU2 hncap hncap2)
   | (go_at_call 17; (with_reducible refine (kt.out).mono ?_); rintro e w3 ⟨tol, rfl, htol, T3, U3⟩; have S3 := hide (S2.out.upd U3 T3); have Htol := hide htol; clear htol T3 U3))
 obtain ⟨r2, er2, hr2⟩ : ∃ r2 er2, allNF tol m = (r2, er2) := ⟨_, _, rfl⟩
 have M3 : Hid (∀ w, Ext w3 w → TimesAt w Am m) := hide fun w h => S3.out.times.ext h
 have E3 := hide S3.out.e
 have KP2 : Hid (∀ w, Ext w3 w → Calls Try.prog 18 #[.slice Am nm capm, .int .i64 tol] w (CoFin r2 er2 w)) := hide (fun w h => by have := p_allNF Am nm capm m tol w (M3.out w h) hnm; rwa [hr2] at this)
 have KR2 : Hid (∀ w, Ext w3 w → Calls Try.prog 19 #[.slice Am nm capm, .int .i64 tol] w (CoFin r2 er2 w)) := hide (fun w h => by have := r_allNF Am nm capm m tol w (M3.out w h) hnm; rwa [hr2] at this)
 have k1 := hide (KP.out w3 E3.out)
 clear KN KL KT kl kt T1 E1 S2 S3 hr2 hnm
 go_upto_region 7 with (first
   | (go_at_call 18; (with_reducible refine (k1.out).mono ?_); rintro e w4 h4; obtain ⟨A4, c4, rfl, h4, hE4⟩ := co_fin h4; have S4 := hide h4; have E4 := hide hE4; have k2 := hide (KR.out w4 (E3.out.trans hE4)); clear h4 hE4 k1)
   | (go_at_call 19; (with_reducible refine (k2.out).mono ?_); rintro e w5 h5; obtain ⟨A5, c5, rfl, h5, hE5⟩ := co_fin h5; have S5 := hide h5; have E5 := hide hE5; have k3 := hide (KP2.out w5 (E4.out.trans hE5)); clear h5 hE5 k2)
   | (go_at_call 18; (with_reducible refine (k3.out).mono ?_); rintro e w6 h6; obtain ⟨A6, c6, rfl, h6, hE6⟩ := co_fin h6; have S6 := hide h6; have E6 := hide hE6; have k4 := hide (KR2.out w6 ((E4.out.trans E5.out).trans hE6)); clear h6 hE6 k3)
   | (go_at_call 19; (with_reducible refine (k4.out).mono ?_); rintro e w7 h7; obtain ⟨A7, c7, rfl, h7, hE7⟩ := co_fin h7; have S7 := hide h7; have E7 := hide hE7; clear h7 hE7 k4))
 have Q1 := hide (fun w (h : Ext w7 w) => r_sameC A4 A5 _ c4 c5 r w (S4.out.ext ((E5.out.trans (E6.out.trans E7.out)).trans h)) rfl (S5.out.ext ((E6.out.trans E7.out).trans h)))
 have Q2 := hide (fun w (h : Ext w7 w) => r_sameC A6 A7 _ c6 c7 r2 w (S6.out.ext (E7.out.trans h)) rfl (S7.out.ext h))
 have EW := hide ((E3.out.trans E4.out).trans (E5.out.trans (E6.out.trans E7.out)))
 have b1 : ((er : Int) == (er : Int)) = true := by simp
 have b2 : ((er2 : Int) == (er2 : Int)) = true := by simp
 clear KP KR KP2 KR2 S4 S5 S6 S7
 go_wp2_with (first
   | (go_at_call 14; (with_reducible refine (KK.out _).mono ?_); rintro e w8 ⟨rfl, hE⟩; have E8 := hide hE; have q1 := hide (Q1.out w8 hE); clear hE)
   | (go_at_call 20; (with_reducible refine (q1.out).mono ?_); rintro e w9 ⟨rfl, hE⟩; have E9 := hide (E8.out.trans hE); have q2 := hide (Q2.out w9 E9.out); clear hE q1)
   | (go_at_call 20; (with_reducible refine (q2.out).mono ?_); rintro e w10 ⟨rfl, hE⟩; have E10 := hide (E9.out.trans hE); clear hE))
 go_ret
 exact ⟨rfl, EW.out.trans E10.out⟩
end
end Go.Proofs.Ytlfmeiejocpnfaa
