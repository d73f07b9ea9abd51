/- Part 3 of what these claims stand on: contracts of the program's and the reference's functions, and plain facts. Conditions: each states its own. -/
import Derived.Test.YthcnbpeeekkgkaaPrB2
import Derived.Deep.DeepAppendWide
import Derived.Deep.RegionLaw
namespace Go.Proofs.Ythcnbpeeekkgkaa
set_option linter.unusedVariables false
set_option linter.unusedSimpArgs false
section
open Go Go.RowKit Go.Shelf
abbrev Cv := Option Addr × Nat × List (Int × Int)
theorem OwnC.putO {B j : Nat} {w : World} {v : Value} {l : List (Int × Int)} {o o' : Obj} (h : OwnC B w v l) (hj : w.heap[j]? = some o) (ho : o.isCells = false) : OwnC B (w.putObj j o') v l := by
 obtain ⟨⟨h1, h2⟩, h3⟩ := h
 refine ⟨⟨h1, ?_⟩, h3⟩
 rcases h2 with h2 | ⟨g, cap, cur, hv, hg, hh, r⟩
 · exact Or.inl h2
 · exact Or.inr ⟨g, cap, cur, hv, hg, (World.putObj_heap_other (fun e => by subst e; rw [hj] at hh; cases hh; cases ho)).trans hh, r⟩
def AllI (W : World) (B go : Nat) (pre : List Cv) (W' : World) : Prop := ∃ v, Blk W' go 39 #[v] ∧ OwnC B W' v ((pre.map (·.2.2)).flatten) ∧ ((pre.map (·.2.2)).flatten).length ≤ pre.length ∧ Ext W W'
theorem AllI.ext {W A B' : World} {B go : Nat} {pre : List Cv} (h : AllI W B go pre A) (e : Ext A B') : AllI W B go pre B' := by
 obtain ⟨v, h1, h2, h4, h3⟩ := h
 exact ⟨v, h1.ext e, h2.ext e, h4, h3.trans e⟩
theorem AllI.upd {W A B' : World} {B go b : Nat} {pre : List Cv} {cs : Array Value} (h : AllI W B go pre A) (hW : W.heap.size ≤ b) (hgo : go ≠ b) (hB : Blk A b 23 cs) (u : Upd b A B') : AllI W B go pre B' := by
 obtain ⟨v, h1, h2, h4, h3⟩ := h
 exact ⟨v, (u.2.2.2.2 go h1.lt hgo).trans h1, h2.updT u hB (by decide), h4, u.ext h3 hW⟩
theorem AllI.putO {W A : World} {B go j : Nat} {pre : List Cv} {o o' : Obj} (h : AllI W B go pre A) (hW : W.heap.size ≤ j) (hgo : go ≠ j) (hj : A.heap[j]? = some o) (ho : o.isCells = false) : AllI W B go pre (A.putObj j o') := by
 obtain ⟨v, h1, h2, h4, h3⟩ := h
 exact ⟨v, (World.putObj_heap_other (by omega)).trans h1, h2.putO hj ho, h4, h3.grown (grownBy_putObj' A j o') h3.size (fun k e => by cases e; exact hW)⟩
theorem bd_app {m go : Nat} {W3 w4 : World} {v : Value} {T : List (Int × Int)} (hs : m ≤ W3.heap.size) (hgo : go < m) (HO : OwnC m W3 v T) (hG : W3.grownBy w4 v.ownBlock) (u : Value) : BdM m go W3 (w4.setCell ⟨go, 0, none⟩ u) := by
 have U := upd_set w4 go 0 u
 have hz := hG.size
 have hc : ∀ k, k < W3.heap.size → k ≠ go → k ≠ go → v.ownBlock ≠ some k → (w4.setCell ⟨go, 0, none⟩ u).heap[k]? = W3.heap[k]? := fun k h1 h2 _ h3 => (U.2.2.2.2 k (by omega) h2).trans (hG.block k h1 (fun e => h3 e.symm))
 refine ⟨Nat.le_trans hz U.2.2.2.1, fun k h1 h2 => hc k (by omega) h2 h2 (fun e => by have := (HO.1.lt k e).1; omega), fun k cs t fr h1 h2 h3 => hc k (Array.getElem?_eq_some_iff.1 h2).1 (by omega) (by omega) (fun e => ?_)⟩
 rcases HO.1.2 with ⟨rfl, _⟩ | ⟨g, cap, cur, rfl, _, hh, _⟩
 · simp [Value.ownBlock] at e
 · obtain rfl : g = k := by simpa [Value.ownBlock] using e
   rw [hh] at h2
   cases h2
   exact h3 rfl
theorem all_app {W W3 w4 : World} {m go : Nat} {pre : List Cv} {x : Cv} {v v4 : Value} (hs : m ≤ W3.heap.size) (hgo : go < m) (hW : W.heap.size ≤ go) (hv : Blk W3 go 39 #[v]) (HO : OwnC m W3 v ((pre.map (·.2.2)).flatten)) (hl : ((pre.map (·.2.2)).flatten).length ≤ pre.length) (hx : x.2.2.length ≤ 1) (hE : Ext W W3) (hG : W3.grownBy w4 v.ownBlock) (hO4 : OwnC m w4 v4 ((pre.map (·.2.2)).flatten ++ x.2.2)) : AllI W m go (pre ++ [x]) (w4.setCell ⟨go, 0, none⟩ v4) := by
 have hv4 : Blk w4 go 39 #[v] := (hG.block go (by omega) (fun e => by have := (HO.1.lt go e.symm).1; omega)).trans hv
 have e : ((pre ++ [x]).map (·.2.2)).flatten = (pre.map (·.2.2)).flatten ++ x.2.2 := by simp
 have hE4 : Ext W w4 := hE.grown hG hE.size (fun k e => by have := (HO.1.lt k e).1; omega)
 refine ⟨v4, hv4.set_ 0 v4, ?_, ?_, (upd_set w4 go 0 v4).ext hE4 hW⟩
 · rw [e]; exact hO4.upd (upd_set w4 go 0 v4) hgo
 · rw [e, List.length_append, List.length_append, List.length_singleton]; omega
theorem wlIn_appendC {F : Fence} {nd : Nat} {ops : Array Oper} {rest : List Oper} {o : Oper} {a : Act} {Q : Exit → Act → World → Prop} {w : World} (hgd : o.guard = none) (s x : Operand)
   (ho : o.op = .call { callee := .builtin .append, args := #[s, x], argTypes := #[39, 39] })
   (B : Nat) (v : Value) (l0 l : List (Int × Int)) (hs : a.eval s = v) (hown : OwnC B w v l0) (A : Option Addr) (m c : Nat) (hx : a.eval x = .slice A m c) (hb : SampsAt w A l) (hm : l.length = m) (hlen : l0.length + l.length ≤ 8796093022208) (hbase : B ≤ w.heap.size)
   (h : ∀ v' w', OwnC B w' v' (l0 ++ l) → w.grownBy w' v.ownBlock → wpListIn F nd Try.prog ops Q rest (a.put o.dst v') w') : wpListIn F nd Try.prog ops Q (o :: rest) a w := by
 refine wpListIn_plain hgd fun K hK' => ?_
 obtain ⟨v', w', hrun, h2, h3, h4⟩ := run_appendC B w o.type v l0 l hown A m c hb hm hlen hbase
 unfold Oper.wpIn
 refine ⟨?_, ?_⟩
 · simp [Oper.about, ho, resolve, Target.leads, Sem.run_pure]
 · rw [Oper.semAt_plain F _ _ (by rw [ho]; intro c hc'; cases hc')]
   simp [execOp, ho, resolve, invoke, builtin, hs, hx, hrun, Result.andThen]
   exact hK' _ _ (h v' w' h2 h3)
theorem p_segsF (A : Option Addr) (n c : Nat) (eps : Int) (w : World) :
   Calls Try.prog 37 #[.agg sgF, .agg (miR eps 0 0 0), .slice A n c] w fun e w' => e = .returned (.func (.func 47) #[] #[.pointer (some ⟨w.heap.size + 1, 0, none⟩), .pointer (some ⟨w.heap.size + 1 + 1, 0, none⟩), .pointer (some ⟨w.heap.size, 0, none⟩)]) ∧ w' = ((w.alloc (.cells sgF 75)).alloc (.cells (miR eps 0 0 0) 23)).alloc (.cells #[.slice A n c] 36) := by
 have hmf : ∀ (fn : Fn) (first cap : Array Value) (w : World), (Instr.makeFunc fn first cap).run Try.prog w = .ok (.func fn first cap) w := fun _ _ _ _ => rfl
 unfold sgF miR
 go_enter Try.func37, Try.ntmps37
 go_wp2_with fail
 go_ret
 exact ⟨rfl, rfl⟩
theorem p_allT (A : Option Addr) (n c : Nat) (eps : Int) (W : World) (ht : tolB eps = false) : Calls Try.prog 17 #[.slice A n c, .int .i64 eps] W (CoFin [] 9 W) := by
 have KS := hide fun w => p_startM_no eps w (hide fun w => p_tolI eps w false ht)
 unfold z4m at *
 clear ht
 go_enter Try.func17, Try.ntmps17
 go_wp2_with (go_at_call 10; (with_reducible refine (KS.out _).mono ?_); rintro e w1 ⟨rfl, hE⟩; have E1 := hide hE; clear hE)
 go_ret2
 exact ⟨none, 0, rfl, OwnC.nil_ _ _, E1.out.trans (ext_alloc _ _)⟩
theorem p_allL (A : Option Addr) (n c : Nat) (eps : Int) (W : World) (ht : tolB eps = true) (hn : 1073741824 < n) : Calls Try.prog 17 #[.slice A n c, .int .i64 eps] W (CoFin [] 3 W) := by
 have KS := hide fun w => p_startM eps w (hide fun w => p_tolI eps w true ht)
 have d0 : decide ((1073741824 : Int) < (n : Int)) = true := decide_eq_true (by omega)
 unfold miR at *
 clear ht hn
 go_enter Try.func17, Try.ntmps17
 go_wp2_with (go_at_call 10; (with_reducible refine (KS.out _).mono ?_); rintro e w1 ⟨rfl, hE⟩; have E1 := hide hE; clear hE)
 go_ret2
 exact ⟨none, 0, rfl, OwnC.nil_ _ _, E1.out.trans (ext_alloc _ _)⟩
attribute [local go_sem] Oper.semAt_some
set_option maxHeartbeats 6400000 in
set_option maxRecDepth 100000 in
theorem p_allG (A : Option Addr) (n c : Nat) (l : List Int) (eps : Int) (W : World) (he : Tol eps) (hl : TimesAt W A l) (hn : l.length = n) (hn2 : n ≤ 1073741824) (L : List (Int × Int)) (hLL : (allM eps l).map coM = L) : Calls Try.prog 17 #[.slice A n c, .int .i64 eps] W (CoFin L 0 W) := by
 have KS := hide fun w => p_startM eps w (hide fun w => p_tolI eps w true (tolB_iff.2 he))
 have km := hide fun w => p_middles w
 have kq := hide fun w => p_segsF A n c eps w
 have d0 : decide ((1073741824 : Int) < (n : Int)) = false := decide_eq_false (by omega)
 have Hl := hide hl
 have Hn := hide hn
 have He := hide he
 have HLL := hide hLL
 clear hl hn he hLL
 unfold miR at KS kq
 unfold sgF at km kq
 refine (callsIn_wide (n := 4)).1 ?_
 refine callsIn_of_wp_marks Try.func17 rfl trivial ?_ rfl
 simp only [Try.ntmps17, List.size_toArray, List.length_cons, List.length_nil, Nat.reduceAdd, Nat.reduceSub, Array.replicate_succ, Array.replicate_zero, List.push_toArray, List.append_toArray, List.nil_append, List.cons_append]
 gi_wp2_with (refine ⟨trivial, ?_⟩; gi_at_call 10; refine (callsIn_wide.2 (KS.out _)).mono ?_; rintro e w1 ⟨rfl, hE⟩; have E1 := hide hE; clear hE)
 have P6 := (Blk.new w1 23 #[.int .i64 eps, .int .i64 0, .int .i64 0, .int .i64 0]).alloc (.cells #[.slice none 0 0] 39)
 have P8 := Blk.new (w1.alloc (.cells #[.int .i64 eps, .int .i64 0, .int .i64 0, .int .i64 0] 23)) 39 #[.slice none 0 0]
 have E2 := E1.out.trans ((ext_alloc w1 (.cells #[.int .i64 eps, .int .i64 0, .int .i64 0, .int .i64 0] 23)).trans (ext_alloc _ (.cells #[.slice none 0 0] 39)))
 have hz := E1.out.size
 rw [alloc_size] at P8
 obtain ⟨w2, hw2⟩ : ∃ w, (w1.alloc (.cells #[.int .i64 eps, .int .i64 0, .int .i64 0, .int .i64 0] 23)).alloc (.cells #[.slice none 0 0] 39) = w := ⟨_, rfl⟩
 obtain ⟨g6, hg6⟩ : ∃ g, w1.heap.size = g := ⟨_, rfl⟩
 rw [hw2, hg6] at P6 P8
 rw [hw2] at E2
 rw [hg6] at hz
 rw [hw2, hg6]
 have P6 := hide P6
 have P8 := hide P8
 have E2 := hide E2
 clear hw2 hg6 E1 KS
 have c0 : w2.cell? ⟨g6, 0, none⟩ = some (.int .i64 eps) := P6.out.cell 0
 have c1 : w2.cell? ⟨g6, 1, none⟩ = some (.int .i64 0) := P6.out.cell 1
 have c2 : w2.cell? ⟨g6, 2, none⟩ = some (.int .i64 0) := P6.out.cell 2
 have c3 : w2.cell? ⟨g6, 3, none⟩ = some (.int .i64 0) := P6.out.cell 3
 refine wpIn_mono (Q := fun e a' w' => e = .normal ∧ ∃ w3, Ext w2 w3 ∧ w' = ((w3.alloc (.cells sgF 75)).alloc (.cells (miR eps 0 0 0) 23)).alloc (.cells #[.slice A n c] 36) ∧ a' = { tmps := #[.slice A n c, .int .i64 eps, undef, undef, .slice none 0 0, .int .i64 0, .pointer (some ⟨g6, 0, none⟩), .int .i64 0, .pointer (some ⟨g6 + 1, 0, none⟩), undef, .tuple #[.agg #[.int .i64 eps, .int .i64 0, .int .i64 0, .int .i64 0], .int .i64 0], .int .i64 eps, .tuple #[.agg #[.int .i64 eps, .int .i64 0, .int .i64 0, .int .i64 0], .int .i64 0], .agg #[.int .i64 eps, .int .i64 0, .int .i64 0, .int .i64 0], .int .i64 0, .int .i64 0, .bool false, undef, .slice A n c, .int .i64 (n : Int), .bool false, .agg #[.func (.func 45) #[] #[], .func (.func 46) #[] #[], .func (.func 41) #[] #[]], .agg #[.int .i64 eps, .int .i64 0, .int .i64 0, .int .i64 0], .slice A n c, .func (.func 47) #[] #[.pointer (some ⟨w3.heap.size + 1, 0, none⟩), .pointer (some ⟨w3.heap.size + 1 + 1, 0, none⟩), .pointer (some ⟨w3.heap.size, 0, none⟩)], undef, undef, undef, undef, undef], defers := [] }) ?reg ?rest
 case reg =>
   refine wpIn_region_any (by kernel_rfl) ?_
   (try (change wpAnyIn _ _ _ _ _ _ _ _ _ (World.drew _)))
   refine wpAnyIn_ready (rs := [0, 1, 2]) (by kernel_rfl) (by simp) ?_
   refine AllReadyIn.cons rfl (fun K hK => ?_) ?_
   · go_simp
     gi_wp2_with (refine ⟨trivial, ?_⟩; gi_at_call 36; refine (callsIn_wide.2 (km.out _)).mono ?_; rintro e w3 ⟨rfl, hE⟩; have E3 : Hid (Ext w2 w3) := hide ((ext_drew w2).trans hE); have e0 : w3.cell? ⟨g6, 0, none⟩ = some (.int .i64 eps) := (P6.out.ext E3.out).cell 0; have e1 : w3.cell? ⟨g6, 1, none⟩ = some (.int .i64 0) := (P6.out.ext E3.out).cell 1; have e2 : w3.cell? ⟨g6, 2, none⟩ = some (.int .i64 0) := (P6.out.ext E3.out).cell 2; have e3 : w3.cell? ⟨g6, 3, none⟩ = some (.int .i64 0) := (P6.out.ext E3.out).cell 3; clear hE)
     refine wpAnyIn_ready (rs := [1, 2]) (by kernel_rfl) (by simp) ?_
     refine AllReadyIn.cons rfl (fun K hK => ?_) ?_
     · go_simp
       refine hK _ _ ?_
       clear hK K
       refine wpAnyIn_ready (rs := [2]) (by kernel_rfl) (by simp) ?_
       refine AllReadyIn.cons rfl (fun K hK => ?_) ?_
       · go_simp
         refine hK _ _ ?_
         clear hK K
         refine wpAnyIn_ready (rs := [3]) (by kernel_rfl) (by simp) ?_
         refine AllReadyIn.cons rfl (fun K hK => ?_) ?_
         · go_simp
           gi_wp2_with (refine ⟨trivial, ?_⟩; gi_at_call 37; refine (callsIn_wide.2 (kq.out _)).mono ?_; rintro e w4 ⟨rfl, hw4⟩; have Hw4 := hide hw4; clear hw4)
           refine wpAnyIn_done (by kernel_rfl) ?_ _
           exact ⟨rfl, w3, E3.out, Hw4.out, rfl⟩
         exact AllReadyIn.nil
       exact AllReadyIn.nil
     refine AllReadyIn.cons rfl (fun K hK => ?_) ?_
     · go_simp
       refine hK _ _ ?_
       clear hK K
       refine wpAnyIn_ready (rs := [1]) (by kernel_rfl) (by simp) ?_
       refine AllReadyIn.cons rfl (fun K hK => ?_) ?_
       · go_simp
         refine hK _ _ ?_
         clear hK K
         refine wpAnyIn_ready (rs := [3]) (by kernel_rfl) (by simp) ?_
         refine AllReadyIn.cons rfl (fun K hK => ?_) ?_
         · go_simp
           gi_wp2_with (refine ⟨trivial, ?_⟩; gi_at_call 37; refine (callsIn_wide.2 (kq.out _)).mono ?_; rintro e w4 ⟨rfl, hw4⟩; have Hw4 := hide hw4; clear hw4)
           refine wpAnyIn_done (by kernel_rfl) ?_ _
           exact ⟨rfl, w3, E3.out, Hw4.out, rfl⟩
         exact AllReadyIn.nil
       exact AllReadyIn.nil
     exact AllReadyIn.nil
   refine AllReadyIn.cons rfl (fun K hK => ?_) ?_
   · go_simp
     refine hK _ _ ?_
     clear hK K
     refine wpAnyIn_ready (rs := [0, 2]) (by kernel_rfl) (by simp) ?_
     refine AllReadyIn.cons rfl (fun K hK => ?_) ?_
     · go_simp
       gi_wp2_with (refine ⟨trivial, ?_⟩; gi_at_call 36; refine (callsIn_wide.2 (km.out _)).mono ?_; rintro e w3 ⟨rfl, hE⟩; have E3 : Hid (Ext w2 w3) := hide ((ext_drew w2).trans hE); have e0 : w3.cell? ⟨g6, 0, none⟩ = some (.int .i64 eps) := (P6.out.ext E3.out).cell 0; have e1 : w3.cell? ⟨g6, 1, none⟩ = some (.int .i64 0) := (P6.out.ext E3.out).cell 1; have e2 : w3.cell? ⟨g6, 2, none⟩ = some (.int .i64 0) := (P6.out.ext E3.out).cell 2; have e3 : w3.cell? ⟨g6, 3, none⟩ = some (.int .i64 0) := (P6.out.ext E3.out).cell 3; clear hE)
       refine wpAnyIn_ready (rs := [2]) (by kernel_rfl) (by simp) ?_
       refine AllReadyIn.cons rfl (fun K hK => ?_) ?_
       · go_simp
         refine hK _ _ ?_
         clear hK K
         refine wpAnyIn_ready (rs := [3]) (by kernel_rfl) (by simp) ?_
         refine AllReadyIn.cons rfl (fun K hK => ?_) ?_
         · go_simp
           gi_wp2_with (refine ⟨trivial, ?_⟩; gi_at_call 37; refine (callsIn_wide.2 (kq.out _)).mono ?_; rintro e w4 ⟨rfl, hw4⟩; have Hw4 := hide hw4; clear hw4)
           refine wpAnyIn_done (by kernel_rfl) ?_ _
           exact ⟨rfl, w3, E3.out, Hw4.out, rfl⟩
         exact AllReadyIn.nil
       exact AllReadyIn.nil
     refine AllReadyIn.cons rfl (fun K hK => ?_) ?_
     · go_simp
       refine hK _ _ ?_
       clear hK K
       refine wpAnyIn_ready (rs := [0]) (by kernel_rfl) (by simp) ?_
       refine AllReadyIn.cons rfl (fun K hK => ?_) ?_
       · go_simp
         gi_wp2_with (refine ⟨trivial, ?_⟩; gi_at_call 36; refine (callsIn_wide.2 (km.out _)).mono ?_; rintro e w3 ⟨rfl, hE⟩; have E3 : Hid (Ext w2 w3) := hide ((ext_drew w2).trans hE); have e0 : w3.cell? ⟨g6, 0, none⟩ = some (.int .i64 eps) := (P6.out.ext E3.out).cell 0; have e1 : w3.cell? ⟨g6, 1, none⟩ = some (.int .i64 0) := (P6.out.ext E3.out).cell 1; have e2 : w3.cell? ⟨g6, 2, none⟩ = some (.int .i64 0) := (P6.out.ext E3.out).cell 2; have e3 : w3.cell? ⟨g6, 3, none⟩ = some (.int .i64 0) := (P6.out.ext E3.out).cell 3; clear hE)
         refine wpAnyIn_ready (rs := [3]) (by kernel_rfl) (by simp) ?_
         refine AllReadyIn.cons rfl (fun K hK => ?_) ?_
         · go_simp
           gi_wp2_with (refine ⟨trivial, ?_⟩; gi_at_call 37; refine (callsIn_wide.2 (kq.out _)).mono ?_; rintro e w4 ⟨rfl, hw4⟩; have Hw4 := hide hw4; clear hw4)
           refine wpAnyIn_done (by kernel_rfl) ?_ _
           exact ⟨rfl, w3, E3.out, Hw4.out, rfl⟩
         exact AllReadyIn.nil
       exact AllReadyIn.nil
     exact AllReadyIn.nil
   refine AllReadyIn.cons rfl (fun K hK => ?_) ?_
   · go_simp
     refine hK _ _ ?_
     clear hK K
     refine wpAnyIn_ready (rs := [0, 1]) (by kernel_rfl) (by simp) ?_
     refine AllReadyIn.cons rfl (fun K hK => ?_) ?_
     · go_simp
       gi_wp2_with (refine ⟨trivial, ?_⟩; gi_at_call 36; refine (callsIn_wide.2 (km.out _)).mono ?_; rintro e w3 ⟨rfl, hE⟩; have E3 : Hid (Ext w2 w3) := hide ((ext_drew w2).trans hE); have e0 : w3.cell? ⟨g6, 0, none⟩ = some (.int .i64 eps) := (P6.out.ext E3.out).cell 0; have e1 : w3.cell? ⟨g6, 1, none⟩ = some (.int .i64 0) := (P6.out.ext E3.out).cell 1; have e2 : w3.cell? ⟨g6, 2, none⟩ = some (.int .i64 0) := (P6.out.ext E3.out).cell 2; have e3 : w3.cell? ⟨g6, 3, none⟩ = some (.int .i64 0) := (P6.out.ext E3.out).cell 3; clear hE)
       refine wpAnyIn_ready (rs := [1]) (by kernel_rfl) (by simp) ?_
       refine AllReadyIn.cons rfl (fun K hK => ?_) ?_
       · go_simp
         refine hK _ _ ?_
         clear hK K
         refine wpAnyIn_ready (rs := [3]) (by kernel_rfl) (by simp) ?_
         refine AllReadyIn.cons rfl (fun K hK => ?_) ?_
         · go_simp
           gi_wp2_with (refine ⟨trivial, ?_⟩; gi_at_call 37; refine (callsIn_wide.2 (kq.out _)).mono ?_; rintro e w4 ⟨rfl, hw4⟩; have Hw4 := hide hw4; clear hw4)
           refine wpAnyIn_done (by kernel_rfl) ?_ _
           exact ⟨rfl, w3, E3.out, Hw4.out, rfl⟩
         exact AllReadyIn.nil
       exact AllReadyIn.nil
     refine AllReadyIn.cons rfl (fun K hK => ?_) ?_
     · go_simp
       refine hK _ _ ?_
       clear hK K
       refine wpAnyIn_ready (rs := [0]) (by kernel_rfl) (by simp) ?_
       refine AllReadyIn.cons rfl (fun K hK => ?_) ?_
       · go_simp
         gi_wp2_with (refine ⟨trivial, ?_⟩; gi_at_call 36; refine (callsIn_wide.2 (km.out _)).mono ?_; rintro e w3 ⟨rfl, hE⟩; have E3 : Hid (Ext w2 w3) := hide ((ext_drew w2).trans hE); have e0 : w3.cell? ⟨g6, 0, none⟩ = some (.int .i64 eps) := (P6.out.ext E3.out).cell 0; have e1 : w3.cell? ⟨g6, 1, none⟩ = some (.int .i64 0) := (P6.out.ext E3.out).cell 1; have e2 : w3.cell? ⟨g6, 2, none⟩ = some (.int .i64 0) := (P6.out.ext E3.out).cell 2; have e3 : w3.cell? ⟨g6, 3, none⟩ = some (.int .i64 0) := (P6.out.ext E3.out).cell 3; clear hE)
         refine wpAnyIn_ready (rs := [3]) (by kernel_rfl) (by simp) ?_
         refine AllReadyIn.cons rfl (fun K hK => ?_) ?_
         · go_simp
           gi_wp2_with (refine ⟨trivial, ?_⟩; gi_at_call 37; refine (callsIn_wide.2 (kq.out _)).mono ?_; rintro e w4 ⟨rfl, hw4⟩; have Hw4 := hide hw4; clear hw4)
           refine wpAnyIn_done (by kernel_rfl) ?_ _
           exact ⟨rfl, w3, E3.out, Hw4.out, rfl⟩
         exact AllReadyIn.nil
       exact AllReadyIn.nil
     exact AllReadyIn.nil
   exact AllReadyIn.nil
 case rest =>
 rintro e a' w' ⟨rfl, w3, hE3, hw4, rfl⟩
 have Q1 := ((Blk.new w3 75 sgF).alloc (.cells (miR eps 0 0 0) 23)).alloc (.cells #[.slice A n c] 36)
 have Q2 := (Blk.new (w3.alloc (.cells sgF 75)) 23 (miR eps 0 0 0)).alloc (.cells #[.slice A n c] 36)
 have Q3 := Blk.new ((w3.alloc (.cells sgF 75)).alloc (.cells (miR eps 0 0 0) 23)) 36 #[.slice A n c]
 have EQ := ((ext_alloc w3 (.cells sgF 75)).trans (ext_alloc _ (.cells (miR eps 0 0 0) 23))).trans (ext_alloc _ (.cells #[.slice A n c] 36))
 have hz4 : w'.heap.size = w3.heap.size + 1 + 1 + 1 := by rw [hw4]; simp only [alloc_size]
 simp only [alloc_size] at Q2 Q3
 rw [← hw4] at Q1 Q2 Q3 EQ
 have hz3 := hE3.size
 have hg8 := P8.out.lt
 have R8 := hide ((P8.out.ext hE3).ext EQ)
 have E4 := hide (E2.out.trans (hE3.trans EQ))
 have Q1 := hide Q1
 have Q2 := hide Q2
 have Q3 := hide Q3
 obtain ⟨q3, hq3⟩ : ∃ q, w3.heap.size = q := ⟨_, rfl⟩
 rw [hq3] at Q1 Q2 Q3 hz4 hz3 ⊢
 clear hq3 hw4 EQ hE3 P6 P8 E2 c0 c1 c2 c3 km kq
 gi_wp2
 have hgo : g6 + 1 < w'.heap.size := by omega
 have HE := hide (enters_of Try.func47 (by kernel_rfl) rfl)
 refine range_read (n + 1) (go := g6 + 1) (gf := 47) (lb := #[.pointer (some ⟨q3 + 1, 0, none⟩), .pointer (some ⟨q3 + 1 + 1, 0, none⟩), .pointer (some ⟨q3, 0, none⟩)]) (by decide) hgo rfl HE.out (fun x : Cv => #[.slice x.1 x.2.2.length x.2.1]) (fun _ => rfl)
   (fun x W => OwnC 0 W (.slice x.1 x.2.2.length x.2.1) x.2.2 ∧ x.2.2.length ≤ 1) (fun xs => (xs.map (·.2.2)).flatten = L) (AllI W (w'.heap.size + 2) (g6 + 1))
   (fun x => { tmps := #[.slice A n c, .int .i64 eps, undef, undef, .slice none 0 0, .int .i64 0, .pointer (some ⟨g6, 0, none⟩), .int .i64 0, .pointer (some ⟨g6 + 1, 0, none⟩), .slice x.1 x.2.2.length x.2.1, .tuple #[.agg #[.int .i64 eps, .int .i64 0, .int .i64 0, .int .i64 0], .int .i64 0], .int .i64 eps, .tuple #[.agg #[.int .i64 eps, .int .i64 0, .int .i64 0, .int .i64 0], .int .i64 0], .agg #[.int .i64 eps, .int .i64 0, .int .i64 0, .int .i64 0], .int .i64 0, .int .i64 0, .bool false, undef, .slice A n c, .int .i64 (n : Int), .bool false, .agg #[.func (.func 45) #[] #[], .func (.func 46) #[] #[], .func (.func 41) #[] #[]], .agg #[.int .i64 eps, .int .i64 0, .int .i64 0, .int .i64 0], .slice A n c, .func (.func 47) #[] #[.pointer (some ⟨q3 + 1, 0, none⟩), .pointer (some ⟨q3 + 1 + 1, 0, none⟩), .pointer (some ⟨q3, 0, none⟩)], (.slice x.1 x.2.2.length x.2.1), undef, undef, undef, undef], defers := [] }) ?hseq ?hIE ?hIU ?hIP ?hRP ?h0 ?hassign ?hbody ?hdone
 case hseq =>
   intro J W1 hW1 hs1 hJE hJU hJ0 hY
   have hh : w'.heap.size ≤ W1.heap.size := hW1.size
   refine (p_segs1 3 (by decide) A n c l eps He.out hn2 Hn.out (q3 + 1) (q3 + 1 + 1) q3 (g6 + 1) (w'.heap.size + 1) (fun qs W => ∃ xs : List Cv, xs.map (·.2.2) = qs ∧ J xs W) W1
     (Q2.out.ext hW1) ⟨by omega, by omega⟩ ((Q3.out.ext hW1).cell 0) ⟨by omega, by omega, by omega⟩ (Q1.out.ext hW1) ⟨by omega, by omega⟩ (Hl.out.ext (E4.out.trans hW1)) (fun h0 b off hA => ?_) ?_ ?_ ⟨[], rfl, hJ0⟩ ?_).mono ?_
   · obtain ⟨b', off', hA', hb', _⟩ := Hl.out.2.2 (by rw [Hn.out]; exact h0)
     rw [hA] at hA'
     cases hA'
     exact ⟨by omega, by have := E4.out.size; omega⟩
   · rintro pre X Y ⟨xs, h1, h2⟩ h3
     exact ⟨xs, h1, hJE _ _ _ h2 h3⟩
   · rintro pre X Y b cs hb hB ⟨xs, h1, h2⟩ hu
     exact ⟨xs, h1, hJU _ _ _ _ _ hb hB h2 hu⟩
   · rintro pre W2 A1 k q ⟨xs, rfl, h2⟩ hO hq1 hpn
     obtain ⟨fn, tmps, assign, body, hy, hR⟩ := hY xs W2 (A1, k, q) h2 ⟨hO, hq1⟩ (by rw [List.length_map] at hpn; omega)
     refine ⟨fn, tmps, assign, body, hy, hR.mono ?_⟩
     rintro e W' ⟨rfl, h3, h4⟩
     exact ⟨rfl, ⟨xs ++ [(A1, k, q)], by simp, h3⟩, h4⟩
   · rintro e W' ⟨hv, qs, hq, xs, rfl, hx⟩
     exact ⟨hv, xs, hq.trans HLL.out, hx⟩
 case hIE => exact fun _ _ _ h e => h.ext e
 case hIU => exact fun _ _ _ _ _ hb hB h u => h.upd (by have := E4.out.size; omega) (by omega) hB u
 case hIP => exact fun _ _ _ _ _ hj ho hc h => h.putO (by have := E4.out.size; omega) (by omega) ho hc
 case hRP => exact fun _ _ _ _ _ ho hc h => ⟨h.1.putO ho hc, h.2⟩
 case h0 => exact ⟨.slice none 0 0, R8.out, OwnC.nil_ _ _, Nat.zero_le _, E4.out⟩
 case hassign =>
   intro x W' K hK
   gi_wp2
   exact hK
 case hbody =>
   rintro pre x W3 ⟨v, hv, hO, hl1, hE⟩ ⟨hR, hx1⟩ hN hs
   obtain ⟨A1, k, q⟩ := x
   dsimp only at hR hx1 ⊢
   have c8 : W3.cell? ⟨g6 + 1, 0, none⟩ = some v := hv.cell 0
   have HH := hide (fun w4 v4 hG hO4 => all_app (x := (A1, k, q)) (v4 := v4) (w4 := w4) hs (by omega : g6 + 1 < w'.heap.size + 2) (Nat.le_succ_of_le hz) hv hO hl1 hx1 hE hG hO4)
   have HB := hide (fun w4 v4 hG => bd_app (w4 := w4) hs (by omega : g6 + 1 < w'.heap.size + 2) hO hG v4)
   have HV := hide (fun w4 (hG : W3.grownBy w4 v.ownBlock) => show Blk w4 (g6 + 1) 39 #[v] from (hG.block (g6 + 1) (by omega) (fun e => by have := (hO.1.lt (g6 + 1) e.symm).1; omega)).trans hv)
   obtain ⟨T, hT⟩ : ∃ T, (pre.map (·.2.2)).flatten = T := ⟨_, rfl⟩
   rw [hT] at hO hl1 HH
   have HO := hide hO
   have HR := hide (own_co hR)
   have hle : T.length + q.length ≤ 8796093022208 := by omega
   clear hv hO hR hE hT hl1
   gi_wp2_with (refine wlIn_appendC rfl (.tmp 26) (.tmp 27) rfl (w'.heap.size + 2) _ T q rfl HO.out A1 _ k rfl HR.out rfl hle hs ?_; intro v4 w4 hO4 hG4; have c9 : w4.cell? ⟨g6 + 1, 0, none⟩ = some v := (HV.out w4 hG4).cell 0; have f9 := (HV.out w4 hG4).frozen 0; have X1 := hide (HH.out w4 v4 hG4 hO4); have X2 := hide (HB.out w4 v4 hG4); obtain ⟨A4, c4, rfl, _, _, _⟩ := hO4.at_; clear hO4 hG4)
   have h1 := X1.out
   have h2 := X2.out
   rw [List.length_append, hz4] at h1 h2
   exact ⟨h2, h1⟩
 case hdone =>
   rintro xs W2 hS ⟨v, hv, hO, -, hE⟩ hK
   have c8 : W2.cell? ⟨g6 + 1, 0, none⟩ = some v := hv.cell 0
   rw [hS] at hO
   have O9 := hide ((hO.putO (o' := .deferred none) hK rfl).less (B' := W.heap.size) (by have := E4.out.size; omega))
   have E9 := hide (hE.grown (grownBy_putObj' W2 w'.heap.size (.deferred none)) hE.size (fun k e => by cases e; exact E4.out.size))
   obtain ⟨A1, c1, rfl, _, _, _⟩ := hO.at_
   clear hv hO hE hS
   gi_wp2
   refine ⟨by simp, .inl ⟨_, _, rfl, run_takeDeferred hK, ?_⟩⟩
   refine ⟨_, results_tmp2 rfl _ _ _, ?_⟩
   exact ⟨A1, c1, rfl, O9.out, E9.out⟩
theorem p_allF (A : Option Addr) (n c : Nat) (l : List Int) (eps : Int) (W : World) (hl : TimesAt W A l) (hn : l.length = n) : Calls Try.prog 17 #[.slice A n c, .int .i64 eps] W (CoFin (allF eps l).1 (allF eps l).2 W) := by
 unfold allF
 cases ht : tolB eps with
 | false => exact p_allT A n c eps W ht
 | true =>
   rw [if_pos rfl]
   by_cases h : 1073741824 < l.length
   · rw [if_pos h]
     exact p_allL A n c eps W ht (by omega)
   · rw [if_neg h]
     exact p_allG A n c l eps W (tolB_iff.1 ht) hl hn (by omega) _ rfl
end
section
open Go Go.RowKit Go.Sort
theorem eqC2 (a b a' b' : Int) (w : World) : (binOp .eql 46 (.agg #[.int .i64 a, .int .i64 b]) (.agg #[.int .i64 a', .int .i64 b'])).run Try.prog w = .ok (.bool (a == a' && b == b')) w := by
 have hS : Try.prog.underlying 46 = some (.struct (Try.prog.fieldsOf 46)) := by kernel_rfl
 have hp : Try.prog.stoodInHeld 46 = false := by kernel_rfl
 have u := Try.underlying2
 have z := Try.sizeOf2
 have u2 := Try.underlying3
 have z2 := Try.sizeOf3
 rw [run_eql_struct, show (10000 : Nat) = 9999 + 1 from rfl, run_equalIn_agg w 9999 46 _ _ hS hp]
 simp only [Program.fieldsOf, Try.underlying46]
 have he : ∀ (x y : Int) (w : World), (Op.equalIn 9999 2 (.int .i64 x) (.int .i64 y)).run Try.prog w = .ok (x == y) w := fun x y w => run_equalIn_int w 9998 2 .i64 .i64 x y u
 have he2 : ∀ (x y : Int) (w : World), (Op.equalIn 9999 3 (.int .i64 x) (.int .i64 y)).run Try.prog w = .ok (x == y) w := fun x y w => run_equalIn_int w 9998 3 .i64 .i64 x y u2
 simp [Op.eqFields, Go.part, isAgg, run_underlying u, run_underlying u2, u, u2, z, z2, he, he2]
 by_cases h0 : a = a' <;> by_cases h1 : b = b' <;> simp [h0, h1]
theorem neC2 (a b : Int) (w : World) : (binOp .neq 46 (.agg #[.int .i64 a, .int .i64 b]) (.agg #[.int .i64 a, .int .i64 b])).run Try.prog w = .ok (.bool false) w := by
 have h := eqC2 a b a b w
 simp only [BEq.rfl, Bool.and_self] at h
 rw [run_eql_struct] at h
 have h : (Op.equalIn 10000 46 (.agg #[.int .i64 a, .int .i64 b]) (.agg #[.int .i64 a, .int .i64 b])).run Try.prog w = .ok true w := by
   generalize (Op.equalIn 10000 46 (.agg #[.int .i64 a, .int .i64 b]) (.agg #[.int .i64 a, .int .i64 b])).run Try.prog w = r at h ⊢
   cases r <;> simp_all [Result.andThen]
 simp only [binOp]
 simp [Op.equal, Op.maxDepth, h, Result.andThen]
set_option maxHeartbeats 3200000 in
set_option maxRecDepth 100000 in
theorem r_sameC (A A2 : Option Addr) (n c c2 : Nat) (x : List (Int × Int)) (W : World) (hx : SampsAt W A x) (hxn : x.length = n) (hy : SampsAt W A2 x) :
   Calls Try.prog 19 #[.slice A n c, .slice A2 n c2] W (Ret (.bool true) W) := by
 have hn63 : n ≤ 9223372036854775807 := by have := hx.2.1; omega
 have d0 : ((n : Int) != (n : Int)) = false := by simp
 have HX := hide hx
 have HY := hide hy
 have Hxn := hide hxn
 have E1 : Hid (Ext W W) := Ext.refl _
 clear hx hy hxn
 go_enter Try.func19, Try.ntmps19
 go_wp2_with fail
 go_loopw [5] (fun iv wr => ∃ i : Nat, i ≤ n ∧ iv = .int .i64 (i : Int) ∧ Hid (Ext W wr)) (fun iv _ => n - (intOf iv).toNat)
 case atStart => exact ⟨0, by omega, rfl, E1⟩
 case round =>
   clear E1
   obtain ⟨i, hi, rfl, HE⟩ := hrel
   by_cases hlt : i < n
   · have d1 : decide ((i : Int) < (n : Int)) = true := decide_eq_true (by omega)
     have hix : i < x.length := by rw [Hxn.out]; exact hlt
     obtain ⟨b1, o1, rfl, hb1, hc1⟩ := (HX.out.ext HE.out).2.2 (by omega)
     obtain ⟨b2, o2, rfl, hb2, hc2⟩ := (HY.out.ext HE.out).2.2 (by omega)
     have p1 := (hc1 i hix).1
     have p2 := (hc1 i hix).2
     have q1 := (hc2 i hix).1
     have q2 := (hc2 i hix).2
     rw [← Nat.add_assoc] at p2 q2
     have ixa := fun w => idxC b1 o1 n c i hlt w
     have ixb := fun w => idxC b2 o2 n c2 i hlt w
     obtain ⟨u, hu⟩ : ∃ z, (x.getD i (0, 0)).1 = z := ⟨_, rfl⟩
     obtain ⟨v, hv⟩ : ∃ z, (x.getD i (0, 0)).2 = z := ⟨_, rfl⟩
     rw [hu] at p1 q1
     rw [hv] at p2 q2
     have ne := fun w => neC2 u v w
     have cp1 := fun d os => cell_regrown p1 d os
     have cp2 := fun d os => cell_regrown p2 d os
     have cq1 := fun d os => cell_regrown q1 d os
     have cq2 := fun d os => cell_regrown q2 d os
     clear hc1 hc2 hu hv hix hb1 hb2
     go_upto_region 6 with fail
     refine wp_region_quiet_below (by kernel_rfl) (by kernel_rfl) ?_
     repeat (first | go_big_quiet_step (fail) | quiet_step (fail))
     refine wpQuiet_nil ?_
     intro _ hw'
     obtain ⟨⟨dq, osq⟩, hw''⟩ := hw'
     subst hw''
     have HE2 := hide (HE.out.trans (ext_regrown wr dq osq))
     clear cp1 cp2 cq1 cq2 p1 p2 q1 q2 HE
     go_wp2_with fail
     go_roundw
     case rel => exact ⟨i + 1, by omega, by go_num, HE2⟩
     case measure => simp [intOf]; omega
   · obtain rfl : i = n := by omega
     have d1 : decide ((i : Int) < (i : Int)) = false := decide_eq_false (by omega)
     go_wp2_with fail
     go_ret
     exact ⟨rfl, HE.out⟩
theorem k15 : allF 2 [1, 2, 5, 6] = ([(3, 3), (1, 6)], 0) := by decide +kernel
theorem l_known15 (W : World) : Calls Try.prog 13 #[] W (Ret (.bool true) W) := by
 have E0 := hide (ext_alloc W (.cells #[.int .i64 1, .int .i64 2, .int .i64 5, .int .i64 6] 2))
 have H0 := new_atT W [1, 2, 5, 6] (by intro x hx; simp at hx; unfold I64; omega) (by simp) #[.int .i64 1, .int .i64 2, .int .i64 5, .int .i64 6] rfl
 have KA := p_allF (some ⟨W.heap.size, 0, none⟩) 4 4 [1, 2, 5, 6] 2 _ H0 rfl
 rw [k15] at KA
 have KA := hide KA
 have e1 := fun w => eqC2 3 3 3 3 w
 have e2 := fun w => eqC2 1 6 1 6 w
 clear H0
 go_enter Try.func13, Try.ntmps13
 go_wp2_with (go_at_call 17; (with_reducible refine (KA.out).mono ?_); rintro e w1 ⟨A1, c1, rfl, hO, hE⟩; obtain ⟨b1, o1, rfl, _, hc⟩ := (own_co hO).2.2 (by simp); have p0 : w1.cell? ⟨b1, o1, none⟩ = some (.int .i64 3) := (hc 0 (by simp)).1; have p1 : w1.cell? ⟨b1, o1 + 1, none⟩ = some (.int .i64 3) := (hc 0 (by simp)).2; have p2 : w1.cell? ⟨b1, o1 + 2, none⟩ = some (.int .i64 1) := (hc 1 (by simp)).1; have p3 : w1.cell? ⟨b1, o1 + 2 + 1, none⟩ = some (.int .i64 6) := (hc 1 (by simp)).2; have ix0 : ∀ w, (Instr.indexAt 39 (.slice (some ⟨b1, o1, none⟩) 2 c1) (.int .i64 0)).run Try.prog w = .ok (.pointer (some ⟨b1, o1, none⟩)) w := (fun w => idxC b1 o1 2 c1 0 (by omega) w); have ix1 : ∀ w, (Instr.indexAt 39 (.slice (some ⟨b1, o1, none⟩) 2 c1) (.int .i64 1)).run Try.prog w = .ok (.pointer (some ⟨b1, o1 + 2, none⟩)) w := (fun w => idxC b1 o1 2 c1 1 (by omega) w); have E1 := hide (E0.out.trans hE); clear hc hO hE)
 go_ret
 exact ⟨rfl, E1.out⟩
end
section
open Go Go.RowKit
def tst (acc : List Int) (m : Nat) : List Int := acc ++ List.replicate m 0
theorem tst_set (acc : List Int) (m : Nat) (x : Int) (k : Nat) (hk : acc.length = k) : (t8s (tst acc (m + 1))).toArray.setIfInBounds k (.int .i64 x) = (t8s (tst (acc ++ [x]) m)).toArray := by
 subst hk
 unfold tst
 rw [List.replicate_succ]
 simp [t8s]
theorem tst_get (acc : List Int) (m k : Nat) (hk : acc.length = k) : (t8s (tst acc (m + 1))).toArray[k]? = some (.int .i64 0) := by
 subst hk
 unfold tst
 rw [List.replicate_succ]
 simp [t8s]
theorem idxTB (g N cap j : Nat) (h : j < N) (w : World) : (Instr.indexAt 36 (.slice (some ⟨g, 0, none⟩) N cap) (.int .i64 (j : Int))).run Try.prog w = .ok (.pointer (some ⟨g, j, none⟩)) w := by
 have := idxT g 0 N cap j h w
 rw [Nat.zero_add] at this
 exact this
def TmRet (r : List Int × Int × Int) (W : World) (e : Ending) (w' : World) : Prop := ∃ v, e = .returned (.tuple #[v, .int .i64 r.2.1, .int .i64 r.2.2]) ∧ OwnT W.heap.size w' v r.1 ∧ Ext W w'
theorem TmRet.parts {r : List Int × Int × Int} {W : World} {e : Ending} {w' : World} (h : TmRet r W e w') : ∃ A cap, e = .returned (.tuple #[.slice A r.1.length cap, .int .i64 r.2.1, .int .i64 r.2.2]) ∧ r.1.length ≤ cap ∧ cap ≤ 9223372036854775807 ∧ OwnT W.heap.size w' (.slice A r.1.length cap) r.1 ∧ TimesAt w' A r.1 ∧ Ext W w' := by
 obtain ⟨v, rfl, hO, hE⟩ := h
 obtain ⟨A, cap, rfl, h1, h2, h3⟩ := hO.at_
 exact ⟨A, cap, rfl, h1, h2, hO, h3, hE⟩
end
section
open Go Go.RowKit
def TimesPost (N B b : Nat) (W : World) (e : Ending) (w' : World) : Prop := ∃ A n cap l, e = .returned (.slice A n cap) ∧ l.length = n ∧ n ≤ N ∧ n ≤ cap ∧ cap ≤ 9223372036854775807 ∧ incB l = true ∧ OwnT W.heap.size w' (.slice A n cap) l ∧ TapeOk B w' b ∧ Upd b W w'
theorem shr_le {u q k : Nat} (hu : u < 18446744073709551616) (h : k ≤ q) : u >>> q ≤ 18446744073709551615 / 2 ^ k := by
 rw [Nat.shiftRight_eq_div_pow]
 exact Nat.le_trans (Nat.div_le_div_left (Nat.pow_le_pow_right (by omega) h) (Nat.two_pow_pos k)) (Nat.div_le_div_right (by omega))
theorem incB_init {l : List Int} {x : Int} (h : incB (l ++ [x]) = true) : incB l = true := by
 rw [incB_iff] at h ⊢
 intro i hi
 have := h i (by simp; omega)
 rwa [getD_appL [x] (by omega), getD_appL [x] (by omega)] at this
set_option maxHeartbeats 6400000 in
set_option maxRecDepth 100000 in
theorem t_times (N B b : Nat) (hN : N ≤ 1000) (W : World) (hT : TapeOk B W b) : Calls Try.prog 43 #[.pointer (some ⟨b, 0, none⟩), .int .i64 (N : Int)] W (TimesPost N B b W) := by
 have hbW := hT.2.1
 have i5 : I64 5 := ⟨by omega, by omega⟩
 have i50 : I64 50 := ⟨by omega, by omega⟩
 have i9 : I64 9 := ⟨by omega, by omega⟩
 have i3 : I64 3 := ⟨by omega, by omega⟩
 have i56 : I64 56 := ⟨by omega, by omega⟩
 have i8 : I64 8 := ⟨by omega, by omega⟩
 have iN : I64 ((N : Int) + 1) := ⟨by omega, by omega⟩
 have HT := hide hT
 clear hT
 go_enter Try.func43, Try.ntmps43
 go_upto_region 3 with (go_at_call 12; (with_reducible refine (t_next B b 5 _ i5 HT.out).mono ?_); rintro e w1 ⟨s, rfl, hs, T1, u1⟩; obtain ⟨kd, rfl⟩ := Int.eq_ofNat_of_zero_le hs.1; have hkd : kd < 5 := (by have := hs.2.1 (by omega); omega); have T1 := hide T1; have U1 := hide u1; clear hs u1)
 go_upto_region 4 with (go_at_call 26; (with_reducible refine (t_int B b W _ T1.out U1.out).mono ?_); rintro e w2 ⟨at0, rfl, ha, T2, u2⟩; have T2 := hide T2; have U2 := hide u2; clear u2 T1 U1)
 go_upto_region 5 with (go_at_call 12; (with_reducible refine (t_next B b 50 _ i50 T2.out).mono ?_); rintro e w3 ⟨s, rfl, hs, T3, u3⟩; obtain ⟨s0, rfl⟩ := Int.eq_ofNat_of_zero_le hs.1; have hs0 : s0 < 50 := (by have := hs.2.1 (by omega); omega); obtain ⟨st, hst⟩ : ∃ st, 1 + s0 = st := ⟨_, rfl⟩; have es : IntKind.u64.wrap ((1 : Int) + (s0 : Int)) = (st : Int) := (by rw [wrap_u64']; omega); have T3 := hide T3; have U3 := hide (U2.out.trans u3); clear hs u3 T2 U2)
 have hst1 : 1 ≤ st := by omega
 have hst2 : st ≤ 50 := by omega
 clear hst es
 go_upto_region 6 with (go_at_call 12; (with_reducible refine (t_next B b ((N : Int) + 1) _ iN T3.out).mono ?_); rintro e w4 ⟨s, rfl, hs, T4, u4⟩; obtain ⟨i0, rfl⟩ := Int.eq_ofNat_of_zero_le hs.1; have hi0 : i0 ≤ N := (by have := hs.2.1 (by omega); omega); have T4 := hide T4; have U4 := hide (U3.out.trans u4); clear hs u4 T3 U3)
 have HA0 := hide ha
 clear ha HT
 go_wp2_with fail
 go_loopw [5, 7, 9] (fun lv av iv wr => ∃ (i : Nat) (a : Int) (ll : List Int), iv = .int .i64 (i : Int) ∧ av = .int .i64 a ∧ ll.length + i ≤ N ∧ Hid (I64 a) ∧ Hid (incB (ll ++ [a]) = true) ∧ Hid (OwnT W.heap.size wr lv ll) ∧ Hid (TapeOk B wr b) ∧ Hid (Upd b W wr)) (fun _ _ iv _ => (intOf iv).toNat)
 case atStart => exact ⟨i0, at0, [], rfl, rfl, by simp; omega, HA0, hide (by simp [incB]), hide (OwnT.nil_ _ _), T4, U4⟩
 case round =>
   clear T4 U4 HA0
   obtain ⟨i, a, ll, rfl, rfl, hli, HA, HI, HO, HT, HU⟩ := hrel
   by_cases h0 : 0 < i
   · have d0 : decide ((0 : Int) < (i : Int)) = true := decide_eq_true (by omega)
     have O5 := hide (HO.out.alloc (.cells #[Value.int .i64 a] 2))
     have hone := hide (one_atT wr a HA.out _ rfl)
     have T5 := hide (HT.out.alloc (.cells #[Value.int .i64 a] 2))
     have U5 := hide (HU.out.trans (Ext.upd (ext_alloc wr (.cells #[Value.int .i64 a] 2)) b))
     have hsz : W.heap.size ≤ (wr.alloc (.cells #[Value.int .i64 a] 2)).heap.size := U5.out.2.2.2.1
     have hle5 : ll.length + [a].length ≤ 17592186044416 := (by simp; omega)
     clear HO HT HU
     go_upto_region 9 with (at_builtin; refine wl_appendT rfl (.tmp 27) (.tmp 29) rfl W.heap.size _ ll [a] rfl O5.out _ 1 1 rfl hone.out rfl hle5 hsz ?_; intro v6 w6 hO6 hG6 hA6; have hG := O5.out.1.lt; have O6 := hide hO6; have T6 := hide (T5.out.below (grown_below hG6 (b + 1) (by omega) (fun k hk => by have := (hG k hk).1; omega))); have U6 := hide (upd_grown U5.out hG6 (fun k hk => (hG k hk).1)); clear hO6 hG6 hA6 hG O5 T5 U5 hone hsz)
     have hal := HA.out
     unfold I64 at hal
     obtain ⟨mm, hmm⟩ : ∃ mm : Nat, (9223372036854775807 : Int) - a = (mm : Int) := ⟨(9223372036854775807 - a).toNat, by omega⟩
     have em : IntKind.u64.wrap (9223372036854775807 - IntKind.u64.wrap a) = (mm : Int) := by rw [wrap_u64', wrap_u64']; omega
     have KE : Hid (∀ d : Nat, d ≤ mm → wrap64 (IntKind.u64.wrap (IntKind.u64.wrap a + (d : Int))) = a + (d : Int)) := hide (fun d hd => by rw [wrap_u64', wrap_u64']; simp only [wrap64]; omega)
     have KI : Hid (∀ d : Nat, 1 ≤ d → d ≤ mm → I64 (a + (d : Int)) ∧ incB (ll ++ [a] ++ [a + (d : Int)]) = true) := hide (fun d h1 h2 => ⟨⟨by omega, by omega⟩, incB_snoc (i := ll.length) HI.out (by simp) (by rw [getD_end]; omega)⟩)
     have hl2 : (ll ++ [a]).length = ll.length + 1 := by simp
     clear hal hmm hle5
     obtain rfl | rfl | rfl | rfl | rfl : kd = 0 ∨ kd = 1 ∨ kd = 2 ∨ kd = 3 ∨ kd = 4 := by omega
     · go_upto_region 20 with fail
       by_cases hcm : mm < st
       · have dm : decide ((mm : Int) < (st : Int)) = true := decide_eq_true (by omega)
         have dm2 : decide (mm < st) = true := decide_eq_true hcm
         go_wp2_with fail
         go_ret
         obtain ⟨A, cap, hv, h1, h2, h3⟩ := O6.out.at_
         have hO := O6.out
         subst hv
         exact ⟨A, _, cap, ll ++ [a], rfl, rfl, by omega, h1, h2, HI.out, hO, T6.out, U6.out⟩
       · have dm : decide ((mm : Int) < (st : Int)) = false := decide_eq_false (by omega)
         have dm2 : decide (mm < st) = false := decide_eq_false hcm
         have ea := KE.out (st) (by omega)
         obtain ⟨ki, kj⟩ := KI.out (st) (by omega) (by omega)
         obtain ⟨y, hy⟩ : ∃ y, a + ((st : Nat) : Int) = y := ⟨_, rfl⟩
         rw [hy] at ea ki kj
         have ki := hide ki
         have kj := hide kj
         clear hy
         go_wp2_with fail
         go_roundw
         case rel => exact ⟨i - 1, y, ll ++ [a], by go_num, by go_num, by omega, ki, kj, O6, T6, U6⟩
         case measure => simp [intOf]; omega
     · go_upto_region 20 with (go_at_call 12; (with_reducible refine (t_next B b 9 _ i9 T6.out).mono ?_); rintro e w7 ⟨s, rfl, hs, T7, u7⟩; obtain ⟨x, rfl⟩ := Int.eq_ofNat_of_zero_le hs.1; have hx : x < 9 := (by have := hs.2.1 (by omega); omega); obtain ⟨d, hd⟩ : ∃ d, 1 + x = d := ⟨_, rfl⟩; have e1 : IntKind.u64.wrap ((1 : Int) + (x : Int)) = (d : Int) := (by rw [wrap_u64']; omega); have T7 := hide T7; have U7 := hide (U6.out.trans u7); have O7 := hide (O6.out.upd u7 hbW); clear hs u7 T6 U6 O6)
       have hd1 : 1 ≤ d := by omega
       clear e1 hd
       by_cases hcm : mm < d
       · have dm : decide ((mm : Int) < (d : Int)) = true := decide_eq_true (by omega)
         have dm2 : decide (mm < d) = true := decide_eq_true hcm
         go_wp2_with fail
         go_ret
         obtain ⟨A, cap, hv, h1, h2, h3⟩ := O7.out.at_
         have hO := O7.out
         subst hv
         exact ⟨A, _, cap, ll ++ [a], rfl, rfl, by omega, h1, h2, HI.out, hO, T7.out, U7.out⟩
       · have dm : decide ((mm : Int) < (d : Int)) = false := decide_eq_false (by omega)
         have dm2 : decide (mm < d) = false := decide_eq_false hcm
         have ea := KE.out (d) (by omega)
         obtain ⟨ki, kj⟩ := KI.out (d) (by omega) (by omega)
         obtain ⟨y, hy⟩ : ∃ y, a + ((d : Nat) : Int) = y := ⟨_, rfl⟩
         rw [hy] at ea ki kj
         have ki := hide ki
         have kj := hide kj
         clear hy
         go_wp2_with fail
         go_roundw
         case rel => (repeat apply Exists.intro); exact ⟨⟨i - 1, y, ll ++ [a], by go_num, by go_num, by omega, ki, kj, O7, T7, U7⟩, rfl⟩
         case measure => simp [intOf]; omega
     · go_upto_region 20 with (go_at_call 12; (with_reducible refine (t_next B b 3 _ i3 T6.out).mono ?_); rintro e w7 ⟨s, rfl, hs, T7, u7⟩; obtain ⟨x, rfl⟩ := Int.eq_ofNat_of_zero_le hs.1; have hx : x < 3 := (by have := hs.2.1 (by omega); omega); have e0 : IntKind.u64.wrap (x : Int) = (x : Int) := (by rw [wrap_u64']; omega); obtain ⟨d, hd⟩ : ∃ d, st + x = d := ⟨_, rfl⟩; have e1 : IntKind.u64.wrap ((st : Int) + (x : Int)) = (d : Int) := (by rw [wrap_u64']; omega); have T7 := hide T7; have U7 := hide (U6.out.trans u7); have O7 := hide (O6.out.upd u7 hbW); clear hs u7 T6 U6 O6)
       have hd1 : 1 ≤ d := by omega
       clear e0 e1 hd
       by_cases hcm : mm < d
       · have dm : decide ((mm : Int) < (d : Int)) = true := decide_eq_true (by omega)
         have dm2 : decide (mm < d) = true := decide_eq_true hcm
         go_wp2_with fail
         go_ret
         obtain ⟨A, cap, hv, h1, h2, h3⟩ := O7.out.at_
         have hO := O7.out
         subst hv
         exact ⟨A, _, cap, ll ++ [a], rfl, rfl, by omega, h1, h2, HI.out, hO, T7.out, U7.out⟩
       · have dm : decide ((mm : Int) < (d : Int)) = false := decide_eq_false (by omega)
         have dm2 : decide (mm < d) = false := decide_eq_false hcm
         have ea := KE.out (d) (by omega)
         obtain ⟨ki, kj⟩ := KI.out (d) (by omega) (by omega)
         obtain ⟨y, hy⟩ : ∃ y, a + ((d : Nat) : Int) = y := ⟨_, rfl⟩
         rw [hy] at ea ki kj
         have ki := hide ki
         have kj := hide kj
         clear hy
         go_wp2_with fail
         go_roundw
         case rel => (repeat apply Exists.intro); exact ⟨⟨i - 1, y, ll ++ [a], by go_num, by go_num, by omega, ki, kj, O7, T7, U7⟩, rfl⟩
         case measure => simp [intOf]; omega
     · go_upto_region 20 with (first | (go_at_call 35; (with_reducible refine (t_word B b _ T6.out).mono ?_); rintro e w7 ⟨u, rfl, hu, T7, u7⟩; obtain ⟨xw, rfl⟩ := Int.eq_ofNat_of_zero_le hu.1; have hxw : xw < 18446744073709551616 := (by have := hu.2; omega); have T7 := hide T7; have U7 := hide (U6.out.trans u7); have O7 := hide (O6.out.upd u7 hbW); clear hu u7 T6 U6 O6) | (go_at_call 12; (with_reducible refine (t_next B b 56 _ i56 T7.out).mono ?_); rintro e w8 ⟨s, rfl, hs, T8, u8⟩; obtain ⟨x, rfl⟩ := Int.eq_ofNat_of_zero_le hs.1; have hx : x < 56 := (by have := hs.2.1 (by omega); omega); obtain ⟨q, hq⟩ : ∃ q : Nat, 4 + x = q := ⟨_, rfl⟩; have eq1 : (4 : Int) + (x : Int) = (q : Int) := (by omega); have hr := shr_le (q := q) (k := 4) hxw (by omega); have e1 := shr_cast xw q; obtain ⟨r, hrr⟩ : ∃ r, xw >>> q = r := ⟨_, rfl⟩; rw [hrr] at e1 hr; have hr2 : r ≤ 9223372036854775807 := (Nat.le_trans hr (by decide)); obtain ⟨d, hd⟩ : ∃ d, 1 + r = d := ⟨_, rfl⟩; have e2 : IntKind.u64.wrap ((1 : Int) + (r : Int)) = (d : Int) := (by rw [wrap_u64']; omega); have hq2 : q ≤ 64 := (by omega); clear hq hr hrr; have T8 := hide T8; have U8 := hide (U7.out.trans u8); have O8 := hide (O7.out.upd u8 hbW); clear hs u8 T7 U7 O7))
       have hd1 : 1 ≤ d := by omega
       clear e1 e2 eq1 hd
       by_cases hcm : mm < d
       · have dm : decide ((mm : Int) < (d : Int)) = true := decide_eq_true (by omega)
         have dm2 : decide (mm < d) = true := decide_eq_true hcm
         go_wp2_with fail
         go_ret
         obtain ⟨A, cap, hv, h1, h2, h3⟩ := O8.out.at_
         have hO := O8.out
         subst hv
         exact ⟨A, _, cap, ll ++ [a], rfl, rfl, by omega, h1, h2, HI.out, hO, T8.out, U8.out⟩
       · have dm : decide ((mm : Int) < (d : Int)) = false := decide_eq_false (by omega)
         have dm2 : decide (mm < d) = false := decide_eq_false hcm
         have ea := KE.out (d) (by omega)
         obtain ⟨ki, kj⟩ := KI.out (d) (by omega) (by omega)
         obtain ⟨y, hy⟩ : ∃ y, a + ((d : Nat) : Int) = y := ⟨_, rfl⟩
         rw [hy] at ea ki kj
         have ki := hide ki
         have kj := hide kj
         clear hy
         go_wp2_with fail
         go_roundw
         case rel => (repeat apply Exists.intro); exact ⟨⟨i - 1, y, ll ++ [a], by go_num, by go_num, by omega, ki, kj, O8, T8, U8⟩, rfl⟩
         case measure => simp [intOf]; omega
     · go_upto_if 59 with (go_at_call 44; (with_reducible refine (t_bool B b 4 _ _ (by omega) (by omega) T6.out (Upd.refl _ _)).mono ?_); rintro e w7 ⟨v, rfl, T7, u7⟩; have T7 := hide T7; have U7 := hide (U6.out.trans u7); have O7 := hide (O6.out.upd u7 hbW); clear u7 T6 U6 O6)
       cases v with
       | false =>
         go_upto_region 20 with fail
         by_cases hcm : mm < st
         · have dm : decide ((mm : Int) < (st : Int)) = true := decide_eq_true (by omega)
           have dm2 : decide (mm < st) = true := decide_eq_true hcm
           go_wp2_with fail
           go_ret
           obtain ⟨A, cap, hv, h1, h2, h3⟩ := O7.out.at_
           have hO := O7.out
           subst hv
           exact ⟨A, _, cap, ll ++ [a], rfl, rfl, by omega, h1, h2, HI.out, hO, T7.out, U7.out⟩
         · have dm : decide ((mm : Int) < (st : Int)) = false := decide_eq_false (by omega)
           have dm2 : decide (mm < st) = false := decide_eq_false hcm
           have ea := KE.out (st) (by omega)
           obtain ⟨ki, kj⟩ := KI.out (st) (by omega) (by omega)
           obtain ⟨y, hy⟩ : ∃ y, a + ((st : Nat) : Int) = y := ⟨_, rfl⟩
           rw [hy] at ea ki kj
           have ki := hide ki
           have kj := hide kj
           clear hy
           go_wp2_with fail
           go_roundw
           case rel => (repeat apply Exists.intro); exact ⟨⟨i - 1, y, ll ++ [a], by go_num, by go_num, by omega, ki, kj, O7, T7, U7⟩, rfl⟩
           case measure => simp [intOf]; omega
       | true =>
         go_upto_region 20 with (first | (go_at_call 35; (with_reducible refine (t_word B b _ T7.out).mono ?_); rintro e w8 ⟨u, rfl, hu, T8, u8⟩; obtain ⟨xw, rfl⟩ := Int.eq_ofNat_of_zero_le hu.1; have hxw : xw < 18446744073709551616 := (by have := hu.2; omega); have T8 := hide T8; have U8 := hide (U7.out.trans u8); have O8 := hide (O7.out.upd u8 hbW); clear hu u8 T7 U7 O7) | (go_at_call 12; (with_reducible refine (t_next B b 8 _ i8 T8.out).mono ?_); rintro e w9 ⟨s, rfl, hs, T9, u9⟩; obtain ⟨x, rfl⟩ := Int.eq_ofNat_of_zero_le hs.1; have hx : x < 8 := (by have := hs.2.1 (by omega); omega); obtain ⟨q, hq⟩ : ∃ q : Nat, 1 + x = q := ⟨_, rfl⟩; have eq1 : (1 : Int) + (x : Int) = (q : Int) := (by omega); have hr := shr_le (q := q) (k := 1) hxw (by omega); have e1 := shr_cast xw q; obtain ⟨r, hrr⟩ : ∃ r, xw >>> q = r := ⟨_, rfl⟩; rw [hrr] at e1 hr; have hr2 : r ≤ 9223372036854775807 := (Nat.le_trans hr (by decide)); obtain ⟨d, hd⟩ : ∃ d, 1 + r = d := ⟨_, rfl⟩; have e2 : IntKind.u64.wrap ((1 : Int) + (r : Int)) = (d : Int) := (by rw [wrap_u64']; omega); have hq2 : q ≤ 64 := (by omega); clear hq hr hrr; have T9 := hide T9; have U9 := hide (U8.out.trans u9); have O9 := hide (O8.out.upd u9 hbW); clear hs u9 T8 U8 O8))
         have hd1 : 1 ≤ d := by omega
         clear e1 e2 eq1 hd
         by_cases hcm : mm < d
         · have dm : decide ((mm : Int) < (d : Int)) = true := decide_eq_true (by omega)
           have dm2 : decide (mm < d) = true := decide_eq_true hcm
           go_wp2_with fail
           go_ret
           obtain ⟨A, cap, hv, h1, h2, h3⟩ := O9.out.at_
           have hO := O9.out
           subst hv
           exact ⟨A, _, cap, ll ++ [a], rfl, rfl, by omega, h1, h2, HI.out, hO, T9.out, U9.out⟩
         · have dm : decide ((mm : Int) < (d : Int)) = false := decide_eq_false (by omega)
           have dm2 : decide (mm < d) = false := decide_eq_false hcm
           have ea := KE.out (d) (by omega)
           obtain ⟨ki, kj⟩ := KI.out (d) (by omega) (by omega)
           obtain ⟨y, hy⟩ : ∃ y, a + ((d : Nat) : Int) = y := ⟨_, rfl⟩
           rw [hy] at ea ki kj
           have ki := hide ki
           have kj := hide kj
           clear hy
           go_wp2_with fail
           go_roundw
           case rel => (repeat apply Exists.intro); exact ⟨⟨i - 1, y, ll ++ [a], by go_num, by go_num, by omega, ki, kj, O9, T9, U9⟩, rfl⟩
           case measure => simp [intOf]; omega
   · have d0 : decide ((0 : Int) < (i : Int)) = false := decide_eq_false (by omega)
     go_wp2_with fail
     go_ret
     obtain ⟨A, cap, hv, h1, h2, h3⟩ := HO.out.at_
     have hO := HO.out
     subst hv
     exact ⟨A, _, cap, ll, rfl, rfl, by omega, h1, h2, incB_init HI.out, hO, HT.out, HU.out⟩
structure Bt (W : World) (B : Nat) (A : Option Addr) (n cap : Nat) (m : List Int) (w : World) : Prop where
 e : Ext W w
 t : TapeOk W.heap.size w W.heap.size
 o : OwnT B w (.slice A n cap) m
 gb : W.heap.size < B
section
variable {W : World} {B : Nat} {A : Option Addr} {n cap : Nat} {m : List Int} {w w' : World}
theorem Bt.ext (s : Bt W B A n cap m w) (k : Ext w w') : Bt W B A n cap m w' := ⟨s.e.trans k, s.t.ext k, s.o.ext k, s.gb⟩
theorem Bt.upd (s : Bt W B A n cap m w) (u : Upd W.heap.size w w') (t : TapeOk W.heap.size w' W.heap.size) : Bt W B A n cap m w' := ⟨Upd.ext u s.e (Nat.le_refl _), t, s.o.upd u s.gb, s.gb⟩
theorem Bt.times (s : Bt W B A n cap m w) : TimesAt w A m := own_times s.o
theorem Bt.of {w1 : World} (h1 : Ext W w1) (hT : TapeOk W.heap.size w1 W.heap.size) (o : OwnT w1.heap.size w (.slice A n cap) m) (t : TapeOk W.heap.size w W.heap.size) (u : Upd W.heap.size w1 w) : Bt W w1.heap.size A n cap m w := ⟨Upd.ext u h1 (Nat.le_refl _), t, o, hT.2.1⟩
end
end
section
open Go Go.RowKit
theorem wr64 (x : Int) : ∃ p, wrap64 x = p ∧ IntKind.i64.wrap x = p ∧ I64 p := ⟨wrap64 x, rfl, by rw [IntKind.wrap_i64]; simp only [wrap64], i64_wrap x⟩
theorem TimesAt.cell {w : World} {b off : Nat} {l : List Int} (h : TimesAt w (some ⟨b, off, none⟩) l) {j : Nat} (hj : j < l.length) : w.cell? ⟨b, off + j, none⟩ = some (.int .i64 (l.getD j 0)) := by
 obtain ⟨b', off', he, _, hc⟩ := h.2.2 (by omega)
 cases he
 exact hc j hj
def SampsPost (N B b : Nat) (W : World) (e : Ending) (w' : World) : Prop := ∃ A n cap l, e = .returned (.slice A n cap) ∧ l.length = n ∧ n ≤ N ∧ n ≤ cap ∧ cap ≤ 9223372036854775807 ∧ incB (l.map Prod.fst) = true ∧ OwnS W.heap.size w' (.slice A n cap) l ∧ TapeOk B w' b ∧ Upd b W w'
structure Sg (W : World) (B b B1 : Nat) (Am : Option Addr) (n cap : Nat) (m : List Int) (lv : Value) (ll : List (Int × Int)) (w : World) : Prop where
 t : TapeOk B w b
 u : Upd b W w
 s : OwnS B1 w lv ll
 o : OwnT W.heap.size w (.slice Am n cap) m
 bw : B1 ≤ w.heap.size
section
variable {W : World} {B b B1 : Nat} {Am : Option Addr} {n cap : Nat} {m : List Int} {lv : Value} {ll : List (Int × Int)} {w w' : World}
theorem Sg.upd (h : Sg W B b B1 Am n cap m lv ll w) (hb : b < W.heap.size) (hB : W.heap.size ≤ B1) (u : Upd b w w') (t : TapeOk B w' b) : Sg W B b B1 Am n cap m lv ll w' :=
 ⟨t, h.u.trans u, h.s.upd u (Nat.lt_of_lt_of_le hb hB), h.o.upd u hb, Nat.le_trans h.bw u.2.2.2.1⟩
theorem Sg.alloc (h : Sg W B b B1 Am n cap m lv ll w) (o : Obj) : Sg W B b B1 Am n cap m lv ll (w.alloc o) :=
 ⟨h.t.alloc o, h.u.trans (Ext.upd (ext_alloc w o) b), h.s.alloc o, h.o.alloc o, Nat.le_trans h.bw (by simp)⟩
theorem Sg.grow (h : Sg W B b B1 Am n cap m lv ll w) (hb : b < W.heap.size) (hB : W.heap.size ≤ B1) (hq : (Value.slice Am n cap).ownBlock = none ∨ (Value.slice Am n cap).ownBlock ≠ lv.ownBlock) {v' : Value} {l' : List (Int × Int)} (hO : OwnS B1 w' v' l') (hG : w.grownBy w' lv.ownBlock) : Sg W B b B1 Am n cap m v' l' w' :=
 ⟨h.t.below (grown_below hG (b + 1) (Nat.lt_of_lt_of_le hb h.u.2.2.2.1) (fun k hk => by have := (h.s.1.lt k hk).1; omega)), upd_grown h.u hG (fun k hk => Nat.le_trans hB (h.s.1.lt k hk).1), hO, h.o.kept hG hq, Nat.le_trans h.bw (grown_below hG 0 (Nat.zero_le _) (fun _ _ => Nat.zero_le _)).size⟩
end
set_option maxHeartbeats 6400000 in
set_option maxRecDepth 100000 in
theorem t_samples (N B b : Nat) (hN : N ≤ 1000) (W : World) (hT : TapeOk B W b) : Calls Try.prog 34 #[.pointer (some ⟨b, 0, none⟩), .int .i64 (N : Int)] W (SampsPost N B b W) := by
 have hbW := hT.2.1
 have i7 : I64 7 := ⟨by omega, by omega⟩
 have i41 : I64 41 := ⟨by omega, by omega⟩
 have i9 : I64 9 := ⟨by omega, by omega⟩
 have i3 : I64 3 := ⟨by omega, by omega⟩
 have i400 : I64 400 := ⟨by omega, by omega⟩
 have i50 : I64 50 := ⟨by omega, by omega⟩
 have KT := hide (t_times N B b hN W hT)
 clear hT
 go_enter Try.func34, Try.ntmps34
 go_upto_region 2 with (go_at_call 43; (with_reducible refine (KT.out).mono ?_); rintro e w1 ⟨Am, n, cap, m, rfl, hm, hnN, hncap, hncap2, hinc, hO, T1, u1⟩; have T1 := hide T1; have U1 := hide u1; have O1 := hide hO; have Hm := hide hm; have Hinc := hide hinc; clear hO hm hinc u1)
 have hB1 : W.heap.size ≤ w1.heap.size := U1.out.2.2.2.1
 obtain ⟨B1, hBB⟩ : ∃ B1, w1.heap.size = B1 := ⟨_, rfl⟩
 have HQ : Hid (∀ w lv ll, OwnS B1 w lv ll → (Value.slice Am n cap).ownBlock = none ∨ (Value.slice Am n cap).ownBlock ≠ lv.ownBlock) := hide (fun w lv ll ho => by
   cases Am with
   | none => exact Or.inl rfl
   | some a =>
     right
     intro e
     have h1 := O1.out.1.lt a.block rfl
     have h2 := ho.1.lt a.block (by rw [← e]; rfl)
     omega)
 have S1 : Hid (Sg W B b B1 Am n cap m (.slice none 0 0) [] w1) := hide ⟨T1.out, U1.out, OwnS.nil_ _ _, O1.out, by omega⟩
 rw [hBB] at hB1
 clear hBB T1 U1 O1 KT
 go_upto_region 4 with (go_at_call 12; (with_reducible refine (t_next B b 7 _ i7 S1.out.t).mono ?_); rintro e w2 ⟨s, rfl, hs, T2, u2⟩; obtain ⟨kd, rfl⟩ := Int.eq_ofNat_of_zero_le hs.1; have hkd : kd < 7 := (by have := hs.2.1 (by omega); omega); have S2 := hide (S1.out.upd hbW hB1 u2 T2); clear hs u2 T2 S1)
 go_upto_region 5 with (first
   | (go_at_call 26; (with_reducible refine (t_int B b _ _ S2.out.t (Upd.refl _ _)).mono ?_); rintro e w3 ⟨v0, rfl, hv0, T3, u3⟩; have S3 := hide (S2.out.upd hbW hB1 u3 T3); have Hv0 := hide hv0; clear u3 T3 S2 hv0)
   | (go_at_call 12; (with_reducible refine (t_next B b 41 _ i41 S3.out.t).mono ?_); rintro e w4 ⟨s, rfl, hs, T4, u4⟩; have hs0 := hs.1; have hs1 := hs.2.1 (by omega); have S4 := hide (S3.out.upd hbW hB1 u4 T4); obtain ⟨sl, hsl⟩ : ∃ sl, s - 20 = sl := ⟨_, rfl⟩; clear hs u4 T4 S3))
 clear hs0 hs1 hsl
 go_wp2_with fail
 go_loopw [6, 8, 10] (fun lv av iv wr => ∃ (i : Nat) (vv : Int) (ll : List (Int × Int)), i ≤ n ∧ iv = .int .i64 (i : Int) ∧ av = .int .i64 vv ∧ Hid (I64 vv) ∧ Hid (ll.map Prod.fst = m.take i) ∧ Hid (Sg W B b B1 Am n cap m lv ll wr)) (fun _ _ iv _ => n - (intOf iv).toNat)
 case atStart => exact ⟨0, v0, [], by omega, rfl, rfl, Hv0, hide (by simp), S4⟩
 case round =>
   clear S4 Hv0
   obtain ⟨i, vv, ll, hi, rfl, rfl, HV, HL, S5⟩ := hrel
   by_cases h0 : i < n
   · have d0 : decide ((i : Int) < (n : Int)) = true := decide_eq_true (by omega)
     have him : i < m.length := by rw [Hm.out]; exact h0
     obtain ⟨bm, om, rfl, _, _⟩ := (own_times S5.out.o).2.2 (by omega)
     obtain ⟨tt, htt⟩ : ∃ tt, m.getD i 0 = tt := ⟨_, rfl⟩
     have itt : I64 tt := by rw [← htt]; exact S5.out.o.2.get i
     have KC : Hid (∀ w v l', Sg W B b B1 (some ⟨bm, om, none⟩) n cap m v l' w → w.cell? ⟨bm, om + i, none⟩ = some (.int .i64 tt)) := hide (fun w v l' s => by rw [← htt]; exact (own_times s.o).cell him)
     have ix := fun w => idxT bm om n cap i h0 w
     have HL2 : Hid (∀ X, (ll ++ [(tt, X)]).map Prod.fst = m.take (i + 1)) := hide (fun X => by rw [List.map_append, HL.out, takeT_succ him, htt]; rfl)
     have hll : ll.length = i := by
       have := congrArg List.length HL.out
       rw [List.length_map, List.length_take] at this
       omega
     have hle5 : Hid (∀ X : Int, ll.length + [(tt, X)].length ≤ 8796093022208) := hide (fun X => by simp; omega)
     have iv := HV.out
     clear htt him hll HL
     obtain rfl | rfl | rfl | rfl | rfl | rfl | rfl : kd = 0 ∨ kd = 1 ∨ kd = 2 ∨ kd = 3 ∨ kd = 4 ∨ kd = 5 ∨ kd = 6 := by omega
     · go_upto_region 24 with fail
       have ivv := iv
       have Hvv := hide iv
       have S20 := hide (S5.out.alloc (.cells #[.int .i64 tt, .int .i64 vv] 66))
       have ct0 := KC.out _ _ _ S5.out
       have ct := KC.out _ _ _ S20.out
       have hone := hide (one_atS wr tt vv itt ivv)
       have hsz := S20.out.bw
       clear S5
       go_wp2_with (at_builtin; refine wl_appendS rfl (.tmp 81) (.tmp 88) rfl B1 _ ll [(tt, vv)] rfl S20.out.s _ 1 1 rfl hone.out rfl (hle5.out vv) hsz ?_; intro v21 w21 hO21 hG21 hA21; have S21 := hide (S20.out.grow hbW hB1 (HQ.out _ _ _ S20.out.s) hO21 hG21); clear hO21 hG21 hA21)
       go_roundw
       case rel => (repeat apply Exists.intro); exact ⟨⟨i + 1, vv, ll ++ [(tt, vv)], by omega, by go_num, by go_num, Hvv, HL2.out vv, S21⟩, rfl⟩
       case measure => simp [intOf]; omega
     · have Hvv := hide iv
       obtain ⟨p, p1, p2, ip⟩ := wr64 ((i : Int) * sl)
       obtain ⟨X, X1, X2, iX⟩ := wr64 (vv + p)
       go_upto_region 24 with fail
       have S20 := hide (S5.out.alloc (.cells #[.int .i64 tt, .int .i64 X] 66))
       have ct0 := KC.out _ _ _ S5.out
       have ct := KC.out _ _ _ S20.out
       have hone := hide (one_atS wr tt X itt iX)
       have hsz := S20.out.bw
       clear S5
       go_wp2_with (at_builtin; refine wl_appendS rfl (.tmp 81) (.tmp 88) rfl B1 _ ll [(tt, X)] rfl S20.out.s _ 1 1 rfl hone.out rfl (hle5.out X) hsz ?_; intro v21 w21 hO21 hG21 hA21; have S21 := hide (S20.out.grow hbW hB1 (HQ.out _ _ _ S20.out.s) hO21 hG21); clear hO21 hG21 hA21)
       go_roundw
       case rel => (repeat apply Exists.intro); exact ⟨⟨i + 1, vv, ll ++ [(tt, X)], by omega, by go_num, by go_num, Hvv, HL2.out X, S21⟩, rfl⟩
       case measure => simp [intOf]; omega
     · have Hvv := hide iv
       obtain ⟨p, p1, p2, ip⟩ := wr64 ((i : Int) * sl)
       obtain ⟨q, q1, q2, iq⟩ := wr64 (vv + p)
       go_upto_region 24 with (go_at_call 12; (with_reducible refine (t_next B b 7 _ i7 S5.out.t).mono ?_); rintro e w6 ⟨s, rfl, hs, T, u⟩; obtain ⟨y, rfl⟩ := Int.eq_ofNat_of_zero_le hs.1; have hy : y < 7 := (by have := hs.2.1 (by omega); omega); have S6 := hide (S5.out.upd hbW hB1 u T); obtain ⟨X, X1, X2, iX⟩ := wr64 (q + ((y : Int) - 3)); clear hs u T S5)
       have S20 := hide (S6.out.alloc (.cells #[.int .i64 tt, .int .i64 X] 66))
       have ct0 := KC.out _ _ _ S6.out
       have ct := KC.out _ _ _ S20.out
       have hone := hide (one_atS w6 tt X itt iX)
       have hsz := S20.out.bw
       clear S6
       go_wp2_with (at_builtin; refine wl_appendS rfl (.tmp 81) (.tmp 88) rfl B1 _ ll [(tt, X)] rfl S20.out.s _ 1 1 rfl hone.out rfl (hle5.out X) hsz ?_; intro v21 w21 hO21 hG21 hA21; have S21 := hide (S20.out.grow hbW hB1 (HQ.out _ _ _ S20.out.s) hO21 hG21); clear hO21 hG21 hA21)
       go_roundw
       case rel => (repeat apply Exists.intro); exact ⟨⟨i + 1, vv, ll ++ [(tt, X)], by omega, by go_num, by go_num, Hvv, HL2.out X, S21⟩, rfl⟩
       case measure => simp [intOf]; omega
     · have Hvv := hide iv
       go_upto_region 24 with (go_at_call 12; (with_reducible refine (t_next B b 9 _ i9 S5.out.t).mono ?_); rintro e w6 ⟨s, rfl, hs, T, u⟩; obtain ⟨y, rfl⟩ := Int.eq_ofNat_of_zero_le hs.1; have hy : y < 9 := (by have := hs.2.1 (by omega); omega); have S6 := hide (S5.out.upd hbW hB1 u T); obtain ⟨X, X1, X2, iX⟩ := wr64 (vv + ((y : Int) - 4)); clear hs u T S5)
       have S20 := hide (S6.out.alloc (.cells #[.int .i64 tt, .int .i64 X] 66))
       have ct0 := KC.out _ _ _ S6.out
       have ct := KC.out _ _ _ S20.out
       have hone := hide (one_atS w6 tt X itt iX)
       have hsz := S20.out.bw
       clear S6
       go_wp2_with (at_builtin; refine wl_appendS rfl (.tmp 81) (.tmp 88) rfl B1 _ ll [(tt, X)] rfl S20.out.s _ 1 1 rfl hone.out rfl (hle5.out X) hsz ?_; intro v21 w21 hO21 hG21 hA21; have S21 := hide (S20.out.grow hbW hB1 (HQ.out _ _ _ S20.out.s) hO21 hG21); clear hO21 hG21 hA21)
       go_roundw
       case rel => (repeat apply Exists.intro); exact ⟨⟨i + 1, vv, ll ++ [(tt, X)], by omega, by go_num, by go_num, Hvv, HL2.out X, S21⟩, rfl⟩
       case measure => simp [intOf]; omega
     · have Hvv := hide iv
       go_upto_region 24 with (go_at_call 26; (with_reducible refine (t_int B b _ _ S5.out.t (Upd.refl _ _)).mono ?_); rintro e w6 ⟨X, rfl, iX, T, u⟩; have S6 := hide (S5.out.upd hbW hB1 u T); clear u T S5)
       have S20 := hide (S6.out.alloc (.cells #[.int .i64 tt, .int .i64 X] 66))
       have ct0 := KC.out _ _ _ S6.out
       have ct := KC.out _ _ _ S20.out
       have hone := hide (one_atS w6 tt X itt iX)
       have hsz := S20.out.bw
       clear S6
       go_wp2_with (at_builtin; refine wl_appendS rfl (.tmp 81) (.tmp 88) rfl B1 _ ll [(tt, X)] rfl S20.out.s _ 1 1 rfl hone.out rfl (hle5.out X) hsz ?_; intro v21 w21 hO21 hG21 hA21; have S21 := hide (S20.out.grow hbW hB1 (HQ.out _ _ _ S20.out.s) hO21 hG21); clear hO21 hG21 hA21)
       go_roundw
       case rel => (repeat apply Exists.intro); exact ⟨⟨i + 1, vv, ll ++ [(tt, X)], by omega, by go_num, by go_num, Hvv, HL2.out X, S21⟩, rfl⟩
       case measure => simp [intOf]; omega
     · go_upto_if 62 with (go_at_call 44; (with_reducible refine (t_boolN B b 5 _ _ (by omega) (by omega) S5.out.t (Upd.refl _ _)).mono ?_); rintro e w6 ⟨v, rfl, T, u⟩; have S6 := hide (S5.out.upd hbW hB1 u T); clear u T S5)
       cases v with
       | false =>
         have Hvv := hide iv
         go_upto_region 24 with (go_at_call 12; (with_reducible refine (t_next B b 3 _ i3 S6.out.t).mono ?_); rintro e w7 ⟨s, rfl, hs, T, u⟩; obtain ⟨z, rfl⟩ := Int.eq_ofNat_of_zero_le hs.1; have hz : z < 3 := (by have := hs.2.1 (by omega); omega); have S7 := hide (S6.out.upd hbW hB1 u T); obtain ⟨X, X1, X2, iX⟩ := wr64 (vv + (z : Int)); clear hs u T S6)
         have S20 := hide (S7.out.alloc (.cells #[.int .i64 tt, .int .i64 X] 66))
         have ct0 := KC.out _ _ _ S7.out
         have ct := KC.out _ _ _ S20.out
         have hone := hide (one_atS w7 tt X itt iX)
         have hsz := S20.out.bw
         clear S7
         go_wp2_with (at_builtin; refine wl_appendS rfl (.tmp 81) (.tmp 88) rfl B1 _ ll [(tt, X)] rfl S20.out.s _ 1 1 rfl hone.out rfl (hle5.out X) hsz ?_; intro v21 w21 hO21 hG21 hA21; have S21 := hide (S20.out.grow hbW hB1 (HQ.out _ _ _ S20.out.s) hO21 hG21); clear hO21 hG21 hA21)
         go_roundw
         case rel => (repeat apply Exists.intro); exact ⟨⟨i + 1, vv, ll ++ [(tt, X)], by omega, by go_num, by go_num, Hvv, HL2.out X, S21⟩, rfl⟩
         case measure => simp [intOf]; omega
       | true =>
         go_upto_region 24 with (first | (go_at_call 12; (with_reducible refine (t_next B b 400 _ i400 S6.out.t).mono ?_); rintro e w7 ⟨s, rfl, hs, T, u⟩; obtain ⟨y, rfl⟩ := Int.eq_ofNat_of_zero_le hs.1; have hy : y < 400 := (by have := hs.2.1 (by omega); omega); have S7 := hide (S6.out.upd hbW hB1 u T); obtain ⟨V2, V1, W2, iV2⟩ := wr64 (vv + ((y : Int) - 200)); have HV2 := hide iV2; clear hs u T S6) | (go_at_call 12; (with_reducible refine (t_next B b 3 _ i3 S7.out.t).mono ?_); rintro e w8 ⟨s, rfl, hs, T, u⟩; obtain ⟨z, rfl⟩ := Int.eq_ofNat_of_zero_le hs.1; have hz : z < 3 := (by have := hs.2.1 (by omega); omega); have S8 := hide (S7.out.upd hbW hB1 u T); obtain ⟨X, X1, X2, iX⟩ := wr64 (V2 + (z : Int)); clear hs u T S7))
         have S20 := hide (S8.out.alloc (.cells #[.int .i64 tt, .int .i64 X] 66))
         have ct0 := KC.out _ _ _ S8.out
         have ct := KC.out _ _ _ S20.out
         have hone := hide (one_atS w8 tt X itt iX)
         have hsz := S20.out.bw
         clear S8
         go_wp2_with (at_builtin; refine wl_appendS rfl (.tmp 81) (.tmp 88) rfl B1 _ ll [(tt, X)] rfl S20.out.s _ 1 1 rfl hone.out rfl (hle5.out X) hsz ?_; intro v21 w21 hO21 hG21 hA21; have S21 := hide (S20.out.grow hbW hB1 (HQ.out _ _ _ S20.out.s) hO21 hG21); clear hO21 hG21 hA21)
         go_roundw
         case rel => (repeat apply Exists.intro); exact ⟨⟨i + 1, V2, ll ++ [(tt, X)], by omega, by go_num, by go_num, HV2, HL2.out X, S21⟩, rfl⟩
         case measure => simp [intOf]; omega
     · have Hvv := hide iv
       go_upto_region 24 with (first | (go_at_call 12; (with_reducible refine (t_next B b 50 _ i50 S5.out.t).mono ?_); rintro e w6 ⟨s, rfl, hs, T, u⟩; obtain ⟨y, rfl⟩ := Int.eq_ofNat_of_zero_le hs.1; have hy : y < 50 := (by have := hs.2.1 (by omega); omega); have S6 := hide (S5.out.upd hbW hB1 u T); clear hs u T S5) | (go_at_call 12; (with_reducible refine (t_next B b 50 _ i50 S6.out.t).mono ?_); rintro e w7 ⟨s, rfl, hs, T, u⟩; obtain ⟨z, rfl⟩ := Int.eq_ofNat_of_zero_le hs.1; have hz : z < 50 := (by have := hs.2.1 (by omega); omega); have S7 := hide (S6.out.upd hbW hB1 u T); obtain ⟨P, P1, P2, iP⟩ := wr64 ((y : Int) * (z : Int)); obtain ⟨X, X1, X2, iX⟩ := wr64 (P * sl); clear hs u T S6))
       have S20 := hide (S7.out.alloc (.cells #[.int .i64 tt, .int .i64 X] 66))
       have ct0 := KC.out _ _ _ S7.out
       have ct := KC.out _ _ _ S20.out
       have hone := hide (one_atS w7 tt X itt iX)
       have hsz := S20.out.bw
       clear S7
       go_wp2_with (at_builtin; refine wl_appendS rfl (.tmp 81) (.tmp 88) rfl B1 _ ll [(tt, X)] rfl S20.out.s _ 1 1 rfl hone.out rfl (hle5.out X) hsz ?_; intro v21 w21 hO21 hG21 hA21; have S21 := hide (S20.out.grow hbW hB1 (HQ.out _ _ _ S20.out.s) hO21 hG21); clear hO21 hG21 hA21)
       go_roundw
       case rel => (repeat apply Exists.intro); exact ⟨⟨i + 1, vv, ll ++ [(tt, X)], by omega, by go_num, by go_num, Hvv, HL2.out X, S21⟩, rfl⟩
       case measure => simp [intOf]; omega
   · obtain rfl : i = n := by omega
     have d0 : decide ((i : Int) < (i : Int)) = false := decide_eq_false (by omega)
     go_wp2_with fail
     go_ret
     have hL := HL.out
     rw [List.take_of_length_le (by have := Hm.out; omega)] at hL
     obtain ⟨A, c, hv, h1, h2, h3⟩ := S5.out.s.at_
     have hO := S5.out.s
     subst hv
     have hll : ll.length = i := by rw [← Hm.out, ← hL, List.length_map]
     exact ⟨A, _, c, ll, rfl, rfl, by omega, h1, h2, by rw [hL]; exact Hinc.out, hO.less hB1, S5.out.t, S5.out.u⟩
end
section
open Go Go.RowKit
def ValsPost (N B b : Nat) (W : World) (e : Ending) (w' : World) : Prop := ∃ A n cap l, e = .returned (.slice A n cap) ∧ l.length = n ∧ n ≤ N ∧ n ≤ cap ∧ cap ≤ 9223372036854775807 ∧ OwnT W.heap.size w' (.slice A n cap) l ∧ TapeOk B w' b ∧ Upd b W w'
set_option maxHeartbeats 3200000 in
set_option maxRecDepth 100000 in
theorem t_values (N B b : Nat) (hN : N ≤ 1000) (W : World) (hT : TapeOk B W b) : Calls Try.prog 15 #[.pointer (some ⟨b, 0, none⟩), .int .i64 (N : Int)] W (ValsPost N B b W) := by
 have KT := hide (t_samples N B b hN W hT)
 have hbW := hT.2.1
 clear hT
 go_enter Try.func15, Try.ntmps15
 go_upto_region 2 with (go_at_call 34; (with_reducible refine (KT.out).mono ?_); rintro e w1 ⟨Am, n, cap, m, rfl, hm, hnN, hncap, hncap2, -, hO, T1, u1⟩; have T1 := hide T1; have U1 := hide u1; have M1 := hide (own_samps hO); have Hm := hide hm; clear hO hm u1)
 have hB1 : W.heap.size ≤ w1.heap.size := U1.out.2.2.2.1
 have E1 : Hid (Ext w1 w1) := Ext.refl _
 have Hs := hide M1.out.1
 clear KT
 go_wp2_with fail
 go_loopw [6, 7] (fun lv iv wr => ∃ i : Nat, i ≤ n ∧ iv = .int .i64 (i : Int) ∧ Hid (OwnT w1.heap.size wr lv ((m.map Prod.snd).take i)) ∧ Hid (Ext w1 wr)) (fun _ iv _ => n - (intOf iv).toNat)
 case atStart => exact ⟨0, by omega, rfl, hide (OwnT.nil_ _ _), E1⟩
 case round =>
   clear E1
   obtain ⟨i, hi, rfl, HO, HE⟩ := hrel
   by_cases hlt : i < n
   · have d0 : decide ((i : Int) < (n : Int)) = true := decide_eq_true (by omega)
     have him : i < m.length := by rw [Hm.out]; exact hlt
     obtain ⟨bm, om, rfl, _, hc⟩ := (M1.out.ext HE.out).2.2 (by omega)
     have ct := (hc i him).2
     rw [← Nat.add_assoc] at ct
     have ix := fun w => idxS bm om n cap i hlt w
     have hst := takeT_succ (l := m.map Prod.snd) (k := i) (by rw [List.length_map]; exact him)
     have hget : (m.map Prod.snd).getD i 0 = (m.getD i (0, 0)).2 := by simp [List.getD_eq_getElem?_getD, him]
     have hx := (Hs.out.get i).2
     obtain ⟨x, hxx⟩ : ∃ x, (m.getD i (0, 0)).2 = x := ⟨_, rfl⟩
     rw [hxx] at ct hx hget
     rw [hget] at hst
     have hle : ((m.map Prod.snd).take i).length + [x].length ≤ 17592186044416 := by rw [List.length_take, List.length_map, Hm.out]; simp; omega
     have Hst := hide hst
     have O3 := hide (HO.out.alloc (.cells #[Value.int .i64 x] 2))
     have hone := hide (one_atT wr x hx _ rfl)
     have E3 := hide (Ext.trans HE.out (ext_alloc wr (.cells #[Value.int .i64 x] 2)))
     obtain ⟨T, hT⟩ : ∃ T, (m.map Prod.snd).take i = T := ⟨_, rfl⟩
     rw [hT] at O3 Hst hle
     clear hc him hst hget hxx hT HO HE
     go_wp2_with (at_builtin; refine wl_appendT rfl (.tmp 17) (.tmp 23) rfl w1.heap.size _ T [x] rfl O3.out _ 1 1 rfl hone.out rfl hle E3.out.size ?_; intro v6 w6 hO6 hG6 hA6)
     have O6 : Hid (OwnT w1.heap.size w6 v6 ((m.map Prod.snd).take (i + 1))) := by show OwnT _ _ _ _; rw [Hst.out]; exact hO6
     have E6 := hide (below_grownT E3.out (Nat.le_refl _) O3.out hG6)
     clear hO6 hG6 hA6 O3 E3
     go_roundw
     case rel => exact ⟨i + 1, by omega, by go_num, O6, E6⟩
     case measure => simp [intOf]; omega
   · obtain rfl : i = n := by omega
     have d0 : decide ((i : Int) < (i : Int)) = false := decide_eq_false (by omega)
     go_wp2_with fail
     go_ret
     have hO := HO.out
     rw [List.take_of_length_le (by rw [List.length_map, Hm.out]; omega)] at hO
     obtain ⟨A, c, hv, h1, h2, h3⟩ := hO.at_
     subst hv
     have hll : (m.map Prod.snd).length = i := by rw [List.length_map, Hm.out]
     exact ⟨A, _, c, _, rfl, rfl, by omega, h1, h2, hO.less hB1, T1.out.ext HE.out, U1.out.trans (Ext.upd HE.out b)⟩
end
section
open Go Go.RowKit Go.Sort
structure Lk (W : World) (A : Option Addr) (n : Nat) (m : List Int) (w : World) : Prop where
 e : Ext W w
 o : TimesAt w A m
 len : m.length = n
theorem Lk.ext {W w w' : World} {A : Option Addr} {n : Nat} {m : List Int} (s : Lk W A n m w) (k : Ext w w') : Lk W A n m w' := ⟨s.e.trans k, s.o.ext k, s.len⟩
theorem co_fin {l : List (Int × Int)} {er : Nat} {W w' : World} {e : Ending} (h : CoFin l er W e w') : ∃ A c, e = .returned (.tuple #[.slice A l.length c, .int .i64 (er : Int)]) ∧ SampsAt w' A l ∧ Ext W w' := by
 obtain ⟨A, c, h1, h2, h3⟩ := h
 exact ⟨A, c, h1, own_co h2, h3⟩
set_option maxRecDepth 100000 in
set_option maxHeartbeats 6400000 in
theorem law_malls (A : Option Addr) (n c : Nat) (l : List Int) (eps : Int) (y : Option Addr) (len cap : Nat) (W : World) (hl : TimesAt W A l) (hn : l.length = n) (hL : IsList W y len cap) :
   Calls Try.prog 4 #[.slice A n c, .int .i64 eps, .slice y len cap] W (Ret (.bool true) W) := by
 have KN : Hid (Calls Try.prog 8 #[.slice y len cap] W (NewPost W)) := t_new W y len cap hL
 have KL : Hid (∀ w, TapeOk W.heap.size w W.heap.size → Calls Try.prog 15 #[.pointer (some ⟨W.heap.size, 0, none⟩), .int .i64 30] w (ValsPost 30 W.heap.size W.heap.size w)) := hide (fun w h => t_values 30 W.heap.size W.heap.size (by omega) w h)
 have KT : Hid (∀ w, TapeOk W.heap.size w W.heap.size → Calls Try.prog 16 #[.pointer (some ⟨W.heap.size, 0, none⟩)] w (NextPost W.heap.size W.heap.size Tol .i64 w)) := hide (fun w h => t_tol W.heap.size W.heap.size w w h (Upd.refl _ _))
 have KK := hide (fun w => l_known15 w)
 have HL := hide hl
 have Hn := hide hn
 obtain ⟨r, er, hr⟩ : ∃ r er, allF eps l = (r, er) := ⟨_, _, rfl⟩
 have KP : Hid (∀ w, Ext W w → Calls Try.prog 17 #[.slice A n c, .int .i64 eps] w (CoFin r er w)) := hide (fun w h => by have := p_allF A n c l eps w (HL.out.ext h) Hn.out; rwa [hr] at this)
 have KR : Hid (∀ w, Ext W w → Calls Try.prog 18 #[.slice A n c, .int .i64 eps] w (CoFin r er w)) := hide (fun w h => by have := r_allF A n c l eps w (HL.out.ext h) Hn.out; rwa [hr] at this)
 clear hL hl hn hr
 go_enter Try.func4, Try.ntmps4
 go_upto_region 3 with (first
   | (go_at_call 8; (with_reducible refine (KN.out).mono ?_); rintro e w1 ⟨rfl, hT, hE⟩; have T1 := hide hT; have E1 := hide hE; have kl := hide (KL.out w1 hT); clear hT hE)
   | (go_at_call 15; (with_reducible refine (kl.out).mono ?_); rintro e w2 ⟨Am, nm, capm, m, rfl, hnm, hn30, hncap, hncap2, hO, hT2, hU2⟩; have hB2 : w1.heap.size ≤ w2.heap.size := hU2.2.2.2.1; have S2 := hide (Bt.of E1.out T1.out hO hT2 hU2); have kt := hide (KT.out w2 hT2); clear hO hT2 hU2 hncap hncap2)
   | (go_at_call 16; (with_reducible refine (kt.out).mono ?_); rintro e w3 ⟨tol, rfl, htol, T3, U3⟩; have S3 := hide (S2.out.upd U3 T3); have Htol := hide htol; clear htol T3 U3))
 obtain ⟨r2, er2, hr2⟩ : ∃ r2 er2, allF tol m = (r2, er2) := ⟨_, _, rfl⟩
 have M3 : Hid (∀ w, Ext w3 w → TimesAt w Am m) := hide fun w h => S3.out.times.ext h
 have E3 := hide S3.out.e
 have KP2 : Hid (∀ w, Ext w3 w → Calls Try.prog 17 #[.slice Am nm capm, .int .i64 tol] w (CoFin r2 er2 w)) := hide (fun w h => by have := p_allF Am nm capm m tol w (M3.out w h) hnm; rwa [hr2] at this)
 have KR2 : Hid (∀ w, Ext w3 w → Calls Try.prog 18 #[.slice Am nm capm, .int .i64 tol] w (CoFin r2 er2 w)) := hide (fun w h => by have := r_allF Am nm capm m tol w (M3.out w h) hnm; rwa [hr2] at this)
 have k1 := hide (KP.out w3 E3.out)
 clear KN KL KT kl kt T1 E1 S2 S3 hr2 hnm
 go_upto_region 7 with (first
   | (go_at_call 17; (with_reducible refine (k1.out).mono ?_); rintro e w4 h4; obtain ⟨A4, c4, rfl, h4, hE4⟩ := co_fin h4; have S4 := hide h4; have E4 := hide hE4; have k2 := hide (KR.out w4 (E3.out.trans hE4)); clear h4 hE4 k1)
   | (go_at_call 18; (with_reducible refine (k2.out).mono ?_); rintro e w5 h5; obtain ⟨A5, c5, rfl, h5, hE5⟩ := co_fin h5; have S5 := hide h5; have E5 := hide hE5; have k3 := hide (KP2.out w5 (E4.out.trans hE5)); clear h5 hE5 k2)
   | (go_at_call 17; (with_reducible refine (k3.out).mono ?_); rintro e w6 h6; obtain ⟨A6, c6, rfl, h6, hE6⟩ := co_fin h6; have S6 := hide h6; have E6 := hide hE6; have k4 := hide (KR2.out w6 ((E4.out.trans E5.out).trans hE6)); clear h6 hE6 k3)
   | (go_at_call 18; (with_reducible refine (k4.out).mono ?_); rintro e w7 h7; obtain ⟨A7, c7, rfl, h7, hE7⟩ := co_fin h7; have S7 := hide h7; have E7 := hide hE7; clear h7 hE7 k4))
 have Q1 := hide (fun w (h : Ext w7 w) => r_sameC A4 A5 _ c4 c5 r w (S4.out.ext ((E5.out.trans (E6.out.trans E7.out)).trans h)) rfl (S5.out.ext ((E6.out.trans E7.out).trans h)))
 have Q2 := hide (fun w (h : Ext w7 w) => r_sameC A6 A7 _ c6 c7 r2 w (S6.out.ext (E7.out.trans h)) rfl (S7.out.ext h))
 have EW := hide ((E3.out.trans E4.out).trans (E5.out.trans (E6.out.trans E7.out)))
 have b1 : ((er : Int) == (er : Int)) = true := by simp
 have b2 : ((er2 : Int) == (er2 : Int)) = true := by simp
 clear KP KR KP2 KR2 S4 S5 S6 S7
 go_wp2_with (first
   | (go_at_call 13; (with_reducible refine (KK.out _).mono ?_); rintro e w8 ⟨rfl, hE⟩; have E8 := hide hE; have q1 := hide (Q1.out w8 hE); clear hE)
   | (go_at_call 19; (with_reducible refine (q1.out).mono ?_); rintro e w9 ⟨rfl, hE⟩; have E9 := hide (E8.out.trans hE); have q2 := hide (Q2.out w9 E9.out); clear hE q1)
   | (go_at_call 19; (with_reducible refine (q2.out).mono ?_); rintro e w10 ⟨rfl, hE⟩; have E10 := hide (E9.out.trans hE); clear hE))
 go_ret
 exact ⟨rfl, EW.out.trans E10.out⟩
end
section
theorem run_right {l : List Int} {i j : Nat} {lo hi v : Int} (h : RunM l j i lo hi) (hv : l[i]? = some v) (hj : j ≤ i) : RunM l j (i + 1) (min lo v) (max hi v) := by
 obtain ⟨h1, h2, h3⟩ := h
 have hl : i < l.length := (List.getElem?_eq_some_iff.1 hv).1
 have e : (l.take (i + 1)).drop j = (l.take i).drop j ++ [v] := by
   rw [List.take_add_one, hv]
   exact List.drop_append_of_le_length (by rw [List.length_take]; omega)
 unfold RunM
 rw [e]
 refine ⟨fun w hw => ?_, ?_, ?_⟩
 · rw [List.mem_append, List.mem_singleton] at hw
   rcases hw with hw | rfl
   · have := h1 w hw; omega
   · omega
 · rw [List.mem_append, List.mem_singleton]
   rcases Int.le_total lo v with h | h
   · exact Or.inl (by rw [show min lo v = lo by omega]; exact h2)
   · exact Or.inr (by omega)
 · rw [List.mem_append, List.mem_singleton]
   rcases Int.le_total hi v with h | h
   · exact Or.inr (by omega)
   · exact Or.inl (by rw [show max hi v = hi by omega]; exact h3)
theorem run_uniq {l : List Int} {i j : Nat} {lo hi lo' hi' : Int} (h : RunM l j i lo hi) (h' : RunM l j i lo' hi') : lo = lo' ∧ hi = hi' := by
 obtain ⟨h1, h2, h3⟩ := h
 obtain ⟨g1, g2, g3⟩ := h'
 have a := h1 lo' g2
 have b := h1 hi' g3
 have c := g1 lo h2
 have d := g1 hi h3
 omega
theorem run_mem {l : List Int} {i j : Nat} {lo hi : Int} (h : RunM l j i lo hi) : lo ∈ l ∧ hi ∈ l ∧ lo ≤ hi :=
 ⟨List.mem_of_mem_take (List.mem_of_mem_drop h.2.1), List.mem_of_mem_take (List.mem_of_mem_drop h.2.2), (h.1 lo h.2.1).2⟩
def LoHi (l : List Int) (a j : Nat) (lo hi : Int) : Prop := (j = 0 ∧ l[a]? = some lo ∧ hi = lo) ∨ (0 < j ∧ RunM l a (a + j) lo hi)
theorem LoHi.next {l : List Int} {a j : Nat} {lo hi v : Int} (h : LoHi l a j lo hi) (hv : l[a + j]? = some v) : LoHi l a (j + 1) (min lo v) (max hi v) := by
 refine Or.inr ⟨Nat.succ_pos j, ?_⟩
 rcases h with ⟨hj, h1, hh⟩ | ⟨h1, h2⟩
 · subst hj
   rw [Nat.add_zero] at hv
   have e : lo = v := by rw [h1] at hv; exact Option.some.inj hv
   rw [hh, e, Int.min_self, Int.max_self]
   exact run_start hv
 · exact run_right h2 hv (Nat.le_add_right a j)
end
section
open Go Go.RowKit Go.Sort
theorem p_allV (A : Option Addr) (n c : Nat) (l : List Int) (eps : Int) (W : World) (he : Tol eps) (hl : TimesAt W A l) (hn : l.length = n) (hn2 : n ≤ 1073741824) (r : List (Int × Int)) (nr : Nat) (hr : (allM eps l).map coM = r) (hnr : r.length = nr) :
   Calls Try.prog 17 #[.slice A n c, .int .i64 eps] W fun e w' => ∃ A1 c1, e = .returned (.tuple #[.slice A1 nr c1, .int .i64 0]) ∧ SampsAt w' A1 r ∧ Ext W w' := by
 refine (p_allG A n c l eps W he hl hn hn2 r hr).mono ?_
 rintro e w' ⟨A1, c1, rfl, hO, hE⟩
 exact ⟨A1, c1, by rw [hnr]; rfl, own_co hO, hE⟩
theorem co_get {eps : Int} {l : List Int} {k n : Nat} {lo hi : Int} (h : (allM eps l)[k]? = some (n, lo, hi)) : ((allM eps l).map coM).getD k (0, 0) = ((n : Int), (lo + hi) / 2) := by
 simp [List.getD_eq_getElem?_getD, h, coM]
theorem getT {l : List Int} {j : Nat} (h : j < l.length) : l[j]? = some (l.getD j 0) := by rw [List.getElem?_eq_getElem h]; simp [List.getD_eq_getElem?_getD, h]
set_option maxRecDepth 100000 in
set_option maxHeartbeats 6400000 in
theorem law_mmax (y : Option Addr) (len cap : Nat) (W : World) (hL : IsList W y len cap) :
   Calls Try.prog 7 #[.slice y len cap] W (Ret (.bool true) W) := by
 have KN : Hid (Calls Try.prog 8 #[.slice y len cap] W (NewPost W)) := t_new W y len cap hL
 have KL : Hid (∀ w, TapeOk W.heap.size w W.heap.size → Calls Try.prog 15 #[.pointer (some ⟨W.heap.size, 0, none⟩), .int .i64 30] w (ValsPost 30 W.heap.size W.heap.size w)) := hide (fun w h => t_values 30 W.heap.size W.heap.size (by omega) w h)
 have KT : Hid (∀ w, TapeOk W.heap.size w W.heap.size → Calls Try.prog 16 #[.pointer (some ⟨W.heap.size, 0, none⟩)] w (NextPost W.heap.size W.heap.size Tol .i64 w)) := hide (fun w h => t_tol W.heap.size W.heap.size w w h (Upd.refl _ _))
 have KK := hide (fun w => l_known15 w)
 clear hL
 go_enter Try.func7, Try.ntmps7
 go_upto_region 3 with (first
   | (go_at_call 8; (with_reducible refine (KN.out).mono ?_); rintro e w1 ⟨rfl, hT, hE⟩; have T1 := hide hT; have E1 := hide hE; have kl := hide (KL.out w1 hT); clear hT hE)
   | (go_at_call 15; (with_reducible refine (kl.out).mono ?_); rintro e w2 ⟨Am, nm, capm, m, rfl, hnm, hn30, hncap, hncap2, hO, hT2, hU2⟩; have hB2 : w1.heap.size ≤ w2.heap.size := hU2.2.2.2.1; have S2 := hide (Bt.of E1.out T1.out hO hT2 hU2); have kt := hide (KT.out w2 hT2); clear hO hT2 hU2 hncap hncap2)
   | (go_at_call 16; (with_reducible refine (kt.out).mono ?_); rintro e w3 ⟨tol, rfl, htol, T3, U3⟩; have S3 := hide (S2.out.upd U3 T3); have Htol := hide htol; clear htol T3 U3))
 obtain ⟨r, hr⟩ : ∃ r, (allM tol m).map coM = r := ⟨_, rfl⟩
 obtain ⟨nr, hnr⟩ : ∃ k, r.length = k := ⟨_, rfl⟩
 have k1 := hide (p_allV Am nm capm m tol w3 Htol.out S3.out.times hnm (by omega) r nr hr hnr)
 have M3 : Hid (∀ w, Ext w3 w → TimesAt w Am m) := hide fun w h => S3.out.times.ext h
 have E3 := hide S3.out.e
 have HI := hide S3.out.times.1
 have Hr := hide hr
 have Hnm := hide hnm
 have Hnr : Hid ((allM tol m).length = nr) := hide (by rw [← hnr, ← hr, List.length_map])
 have hnr2 : nr ≤ 30 := by have := allM_le tol m; have := Hnr.out; omega
 have HS0 := hide (segB0 (eps := tol) Htol.out.1 m)
 clear KN KL KT kl kt T1 E1 S2 S3 hr hnr hnm
 go_upto_region 6 with (go_at_call 17; (with_reducible refine (k1.out).mono ?_); rintro e w4 ⟨A4, c4, rfl, h4, hE4⟩; have S4 := hide h4; have E4 := hide hE4; clear h4 hE4 k1)
 have EW : Hid (Ext w4 w4) := Ext.refl _
 go_loopw [8, 9, 10, 11, 12] (fun av kv _ _ _ wr => ∃ k a : Nat, kv = .int .i64 (k : Int) ∧ av = .int .i64 (a : Int) ∧ k ≤ nr ∧ a ≤ nm ∧ Hid (SegB tol m (allM tol m) k a) ∧ Hid (Ext w4 wr)) (fun _ kv _ _ _ _ => nr - (intOf kv).toNat)
 case atStart => exact ⟨0, 0, rfl, rfl, by omega, by omega, HS0, EW⟩
 case round =>
   clear EW HS0
   obtain ⟨k, a, rfl, rfl, hk, ha, HS, HE⟩ := hrel
   by_cases hlt : k < nr
   · have d0 : decide ((k : Int) < (nr : Int)) = true := decide_eq_true (by omega)
     obtain ⟨q, lo', hi', hq, hq1, hq2, hq3, hrun, hmax, hS2⟩ := HS.out.next (by rw [Hnr.out]; exact hlt)
     have hget := co_get hq
     rw [Hr.out] at hget
     obtain ⟨md, hmd⟩ : ∃ z, (lo' + hi') / 2 = z := ⟨_, rfl⟩
     rw [hmd] at hget
     rw [Hnm.out] at hq2
     have hrl : r.length = nr := by rw [← Hr.out, List.length_map]; exact Hnr.out
     obtain ⟨b1, o1, rfl, _, hc⟩ := (S4.out.ext HE.out).2.2 (by omega)
     have p1 := (hc k (by omega)).1
     have p2 := (hc k (by omega)).2
     rw [hget] at p1 p2
     dsimp only at p1 p2
     rw [← Nat.add_assoc] at p2
     obtain ⟨bm, om, rfl, _, hcm⟩ := (M3.out wr (E4.out.trans HE.out)).2.2 (by rw [Hnm.out]; omega)
     have ix := fun w => idxC b1 o1 nr c4 k hlt w
     have C1 : Hid (∀ w, Ext wr w → w.cell? ⟨b1, o1 + 2 * k, none⟩ = some (.int .i64 (q : Int)) ∧ w.cell? ⟨b1, o1 + 2 * k + 1, none⟩ = some (.int .i64 md)) := hide fun w h => by
       obtain ⟨b', o', hA, hb', _⟩ := (S4.out.ext HE.out).2.2 (by omega)
       cases hA
       exact ⟨(h.cell (p := ⟨b1, o1 + 2 * k, none⟩) hb').trans p1, (h.cell (p := ⟨b1, o1 + 2 * k + 1, none⟩) hb').trans p2⟩
     have CM : Hid (∀ w, Ext wr w → ∀ j, j < nm → w.cell? ⟨bm, om + j, none⟩ = some (.int .i64 (m.getD j 0))) := hide fun w h j hj => by
       obtain ⟨b', o', hA, hb', _⟩ := (M3.out wr (E4.out.trans HE.out)).2.2 (by rw [Hnm.out]; omega)
       cases hA
       exact (h.cell (p := ⟨bm, om + j, none⟩) hb').trans (hcm j (by rw [Hnm.out]; exact hj))
     have IX : Hid (∀ j, j < nm → ∀ w, (Instr.indexAt 36 (.slice (some ⟨bm, om, none⟩) nm capm) (.int .i64 (j : Int))).run Try.prog w = .ok (.pointer (some ⟨bm, om + j, none⟩)) w) := hide fun j hj w => idxT bm om nm capm j hj w
     have ha2 : a < nm := by omega
     have g1 : decide ((q : Int) < 1) = false := decide_eq_false (by omega)
     have e1 : IntKind.i64.wrap ((nm : Int) - (a : Int)) = (nm : Int) - (a : Int) := by rw [IntKind.wrap_i64]; omega
     have g2 : decide ((nm : Int) - (a : Int) < (q : Int)) = false := decide_eq_false (by omega)
     have ixa := IX.out a ha2
     have ca := CM.out wr (Ext.refl _) a ha2
     have hla := getT (l := m) (j := a) (by rw [Hnm.out]; exact ha2)
     obtain ⟨x0, hx0⟩ : ∃ z, m.getD a 0 = z := ⟨_, rfl⟩
     rw [hx0] at ca hla
     have H0 : Hid (LoHi m a 0 x0 x0) := hide (Or.inl ⟨rfl, hla, rfl⟩)
     have Hrun := hide hrun
     have Hmax := hide hmax
     have HS2 := hide hS2
     have Hmd := hide hmd
     clear hc hcm hget hrl hq hrun hmax hS2 hmd hx0 hla hq3
     go_upto_region 10 with fail
     have ca2 := fun d os => cell_regrown ca d os
     refine wp_region_quiet_below (by kernel_rfl) (by kernel_rfl) ?_
     repeat (first | go_big_quiet_step (fail) | quiet_step (fail))
     refine wpQuiet_nil ?_
     intro _ hw'
     obtain ⟨⟨dq, osq⟩, hw''⟩ := hw'
     subst hw''
     have E5 := hide (ext_regrown wr dq osq)
     obtain ⟨w5, hw5⟩ : ∃ w, grow (redrawn wr dq) osq = w := ⟨_, rfl⟩
     rw [hw5] at E5 ⊢
     clear hw5 ca2 ca p1 p2 ixa g1 g2 e1
     obtain ⟨wo, hwo⟩ : ∃ wo, wo = wr := ⟨_, rfl⟩
     subst hwo
     go_upto_region 12 with fail
     go_loopw [8, 10, 11, 12] (fun av lv hv jv w2 => ∃ (j : Nat) (lo hi : Int), j ≤ q ∧ jv = .int .i64 (j : Int) ∧ av = .int .i64 ((a + j : Nat) : Int) ∧ lv = .int .i64 lo ∧ hv = .int .i64 hi ∧ Hid (LoHi m a j lo hi) ∧ Hid (Ext wo w2)) (fun _ _ _ jv _ => q - (intOf jv).toNat)
     case atStart => exact ⟨0, x0, x0, by omega, rfl, rfl, rfl, rfl, H0, E5⟩
     case round =>
       clear H0 E5
       obtain ⟨j, lo, hi, hj, rfl, rfl, rfl, rfl, HL, HE2⟩ := hrel
       obtain ⟨cc1, cc2⟩ := C1.out wr HE2.out
       by_cases hjq : j < q
       · have d1 : decide ((j : Int) < (q : Int)) = true := decide_eq_true (by omega)
         have haj : a + j < nm := by omega
         have ixj := IX.out (a + j) haj
         have cj := CM.out wr HE2.out (a + j) haj
         have hlj := getT (l := m) (j := a + j) (by rw [Hnm.out]; exact haj)
         obtain ⟨xj, hxj⟩ : ∃ z, m.getD (a + j) 0 = z := ⟨_, rfl⟩
         rw [hxj] at cj hlj
         have HL2 := hide (HL.out.next hlj)
         obtain ⟨aj, haje⟩ : ∃ z : Nat, a + j = z := ⟨_, rfl⟩
         rw [haje] at ixj cj ⊢
         have haj1 : a + (j + 1) = aj + 1 := by omega
         have hajn : aj < nm := by omega
         clear hlj hxj HL
         go_upto_region 14 with fail
         have cj2 := fun d os => cell_regrown cj d os
         refine wp_region_quiet_below (by kernel_rfl) (by kernel_rfl) ?_
         repeat (first | go_big_quiet_step (fail) | quiet_step (fail))
         refine wpQuiet_nil ?_
         intro _ hw'
         obtain ⟨⟨dq, osq⟩, hw''⟩ := hw'
         subst hw''
         have E6 := hide (HE2.out.trans (ext_regrown wr dq osq))
         obtain ⟨w6, hw6⟩ : ∃ w, grow (redrawn wr dq) osq = w := ⟨_, rfl⟩
         rw [hw6] at E6 ⊢
         clear hw6 cj2 cj ixj cc1 cc2 HE2
         go_wp2_with fail
         go_roundw
         case rel => exact ⟨j + 1, min lo xj, max hi xj, by omega, by go_num, by rw [haj1]; go_num, rfl, rfl, HL2, E6⟩
         case measure => simp [intOf]; omega
       · obtain rfl : j = q := by omega
         have d1 : decide ((j : Int) < (j : Int)) = false := decide_eq_false (by omega)
         obtain ⟨hlo, hhi⟩ : lo = lo' ∧ hi = hi' := by
           rcases HL.out with ⟨h, _⟩ | ⟨_, h⟩
           · omega
           · exact run_uniq h Hrun.out
         obtain ⟨hm1, hm2, hle⟩ := run_mem Hrun.out
         have il := HI.out lo' hm1
         have ih := HI.out hi' hm2
         have KM : Hid (∀ w, Calls Try.prog 23 #[.int .i64 lo', .int .i64 hi'] w (Ret (.int .i64 md) w)) := hide fun w => by
           have := r_mid lo' hi' w il ih hle
           rw [Hmd.out] at this
           exact this.mono fun e w' h => ⟨h.1, h.2 ▸ Ext.refl _⟩
         subst hlo hhi
         have b0 : (md != md) = false := by simp
         obtain ⟨p, hp⟩ : ∃ z : Nat, a + j = z := ⟨_, rfl⟩
         rw [hp] at HS2 hq2 ⊢
         have HS3 := HS2
         have Hmax2 : Hid (∀ z, m[p]? = some z → 2 * tol < max hi z - min lo z) := hide (by rw [← hp]; exact Hmax.out)
         clear HL hm1 hm2 Hrun Hmax Hmd HS2
         go_upto_region 16 with fail
         by_cases hpn : p < nm
         · have d2 : decide ((p : Int) < (nm : Int)) = true := decide_eq_true (by omega)
           have ixj := IX.out p hpn
           have cj := CM.out wr HE2.out p hpn
           have hlj := getT (l := m) (j := p) (by rw [Hnm.out]; exact hpn)
           have izp := HI.out.get p
           obtain ⟨xj, hxj⟩ : ∃ z, m.getD p 0 = z := ⟨_, rfl⟩
           rw [hxj] at cj hlj izp
           have hmx := Hmax2.out xj hlj
           have im : I64 (min lo xj) := by unfold I64 at *; omega
           have iM : I64 (max hi xj) := by unfold I64 at *; omega
           have hd : (((min lo xj - max hi xj).natAbs : Nat) : Int) = max hi xj - min lo xj := by omega
           have KD : Hid (∀ w, Calls Try.prog 24 #[.int .i64 (min lo xj), .int .i64 (max hi xj)] w (Ret (.int .u64 ((min lo xj - max hi xj).natAbs : Nat)) w)) := hide fun w => (r_dist _ _ w im iM).mono fun e w' h => ⟨h.1, h.2 ▸ Ext.refl _⟩
           obtain ⟨d, hdd⟩ : ∃ d, (min lo xj - max hi xj).natAbs = d := ⟨_, rfl⟩
           rw [hdd] at KD hd
           obtain ⟨ht0, ht1⟩ := Htol.out
           have ec : IntKind.u64.wrap tol = tol := by rw [wrap_u64']; omega
           have e2 : IntKind.u64.wrap (2 * tol) = 2 * tol := by rw [wrap_u64']; omega
           have e3 : IntKind.u64.wrap (2 * IntKind.u64.wrap tol) = 2 * tol := by rw [ec, e2]
           have d3 : decide ((d : Int) ≤ 2 * tol) = false := decide_eq_false (by omega)
           have cj2 := fun d os => cell_regrown cj d os
           have cc3 := fun d os => cell_regrown cc2 d os
           clear hlj hxj hmx hd hdd im iM izp
           refine wp_region_quiet_below (by kernel_rfl) (by kernel_rfl) ?_
           repeat (first | go_big_quiet_step (first | with_reducible exact quiet_ret (KM.out _) | with_reducible exact quiet_ret (KD.out _)) | quiet_step (first | with_reducible exact quiet_ret (KM.out _) | with_reducible exact quiet_ret (KD.out _)))
           refine wpQuiet_nil ?_
           intro _ hw'
           obtain ⟨⟨dq, osq⟩, hw''⟩ := hw'
           subst hw''
           have E6 := hide ((HE.out.trans HE2.out).trans (ext_regrown wr dq osq))
           obtain ⟨w6, hw6⟩ : ∃ w, grow (redrawn wr dq) osq = w := ⟨_, rfl⟩
           rw [hw6] at E6 ⊢
           clear hw6 cj2 cj ixj cc1 cc2 cc3 HE2
           go_wp2_with fail
           go_roundw
           case rel => exact ⟨k + 1, p, by go_num, rfl, by omega, by omega, HS3, E6⟩
           case measure => simp [intOf]; omega
         · have d2 : decide ((p : Int) < (nm : Int)) = false := decide_eq_false (by omega)
           have cc3 := fun d os => cell_regrown cc2 d os
           refine wp_region_quiet_below (by kernel_rfl) (by kernel_rfl) ?_
           repeat (first | go_big_quiet_step (first | with_reducible exact quiet_ret (KM.out _)) | quiet_step (first | with_reducible exact quiet_ret (KM.out _)))
           refine wpQuiet_nil ?_
           intro _ hw'
           obtain ⟨⟨dq, osq⟩, hw''⟩ := hw'
           subst hw''
           have E6 := hide ((HE.out.trans HE2.out).trans (ext_regrown wr dq osq))
           obtain ⟨w6, hw6⟩ : ∃ w, grow (redrawn wr dq) osq = w := ⟨_, rfl⟩
           rw [hw6] at E6 ⊢
           clear hw6 cc1 cc2 cc3 HE2
           go_wp2_with fail
           go_roundw
           case rel => exact ⟨k + 1, p, by go_num, rfl, by omega, by omega, HS3, E6⟩
           case measure => simp [intOf]; omega
   · obtain rfl : k = nr := by omega
     have d0 : decide ((k : Int) < (k : Int)) = false := decide_eq_false (by omega)
     have hae := HS.out.end_ Hnr.out.symm
     rw [Hnm.out] at hae
     subst hae
     have b1 : ((a : Int) == (a : Int)) = true := by simp
     have EE := hide (E3.out.trans (E4.out.trans HE.out))
     clear HS HE M3
     go_wp2_with (go_at_call 13; (with_reducible refine (KK.out _).mono ?_); rintro e w8 ⟨rfl, hE⟩; have E8 := hide (EE.out.trans hE); clear hE)
     go_ret
     exact ⟨rfl, E8.out⟩
end
section
open Go Go.RowKit Go.Sort
def nearV (a b e : Int) : Bool := decide (0 ≤ e ∧ ((a - b).natAbs : Int) ≤ e)
theorem r_nearS (a b e : Int) (W : World) (ha : I64 a) (hb : I64 b) (he : I64 e) (v : Bool) (hv : nearV a b e = v) :
   Calls Try.prog 20 #[.int .i64 a, .int .i64 b, .int .i64 e] W (RetSame (.bool v) W) := by
 unfold nearV at hv
 have K := hide (fun w => r_dist a b w ha hb)
 obtain ⟨d, hd⟩ : ∃ d, (a - b).natAbs = d := ⟨_, rfl⟩
 rw [hd] at K hv
 by_cases h0 : 0 ≤ e
 · have d0 : decide ((0 : Int) ≤ e) = true := decide_eq_true h0
   have ec : IntKind.u64.wrap e = e := by rw [wrap_u64']; unfold I64 at he; omega
   have d1 : decide ((d : Int) ≤ e) = v := by rw [← hv]; simp [h0]
   have Hv := hide d1
   clear hv ha hb hd
   go_enter Try.func20, Try.ntmps20
   go_wp2_with (go_at_call 24; (with_reducible refine (K.out _).mono ?_); rintro e w3 ⟨rfl, rfl⟩)
   go_ret
   exact ⟨rfl, rfl⟩
 · have d0 : decide ((0 : Int) ≤ e) = false := decide_eq_false h0
   have ev : v = false := by rw [← hv]; simp [h0]
   subst ev
   clear hv ha hb hd K
   go_enter Try.func20, Try.ntmps20
   go_wp2_with fail
   go_ret
   exact ⟨rfl, rfl⟩
end
section
open Go Go.RowKit Go.Sort
theorem run_uptoT (A : Option Addr) (n k cap : Nat) (hk : k ≤ cap) (hc : cap ≤ 9223372036854775807) (w : World) : (Instr.slice 36 (.slice A n cap) none (some (.int .i64 (k : Int))) none).run Try.prog w = .ok (.slice A k cap) w := by
 have he : Try.prog.elem 36 = 2 := by kernel_rfl
 have hz := Try.sizeOf2
 rw [run_slice_h w 36 A n cap (by kernel_rfl) .i64 k (by omega) (by omega), he, hz]
 simp [Result.andThen, sliced]
 intro _
 cases A <;> simp [Addr.add]
theorem idxLL (g N cap j : Nat) (h : j < N) (w : World) : (Instr.indexAt 44 (.slice (some ⟨g, 0, none⟩) N cap) (.int .i64 (j : Int))).run Try.prog w = .ok (.pointer (some ⟨g, j, none⟩)) w := by
 have hz := Try.sizeOf36
 have he : Try.prog.elem 44 = 36 := by kernel_rfl
 have hr := run_indexAt_slice (P := Try.prog) (w := w) 44 ⟨g, 0, none⟩ N cap .i64 (j : Int) (by kernel_rfl)
 rw [hr, if_pos ⟨by omega, by omega⟩, he, hz]
 simp [Result.andThen, add_at]
theorem near_mid {lo hi x eps md : Int} (h : hi - lo ≤ 2 * eps) (h1 : lo ≤ x) (h2 : x ≤ hi) (hm : (lo + hi) / 2 = md) : nearV x md eps = true := by
 unfold nearV
 refine decide_eq_true ⟨by omega, by omega⟩
theorem run_getD {l : List Int} {a n t : Nat} {lo hi : Int} (h : RunM l a (a + n) lo hi) (ht : t < n) (hl : a + n ≤ l.length) : lo ≤ l.getD (a + t) 0 ∧ l.getD (a + t) 0 ≤ hi := by
 refine h.1 _ ?_
 have e : ((l.take (a + n)).drop a)[t]? = some (l.getD (a + t) 0) := by
   rw [List.getElem?_drop, List.getElem?_take_of_lt (by omega)]
   exact getT (by omega)
 exact List.mem_of_getElem? e
set_option maxRecDepth 100000 in
set_option maxHeartbeats 6400000 in
theorem law_mwith (A : Option Addr) (n c : Nat) (l : List Int) (y : Option Addr) (len cap : Nat) (W : World) (hl : TimesAt W A l) (hn : l.length = n) (hnc : n ≤ c) (hc : c ≤ 17592186043904) (hL : IsList W y len cap) :
   Calls Try.prog 5 #[.slice A n c, .slice y len cap] W (Ret (.bool true) W) := by
 have KN : Hid (Calls Try.prog 8 #[.slice y len cap] W (NewPost W)) := t_new W y len cap hL
 have KT : Hid (∀ w, TapeOk W.heap.size w W.heap.size → Calls Try.prog 16 #[.pointer (some ⟨W.heap.size, 0, none⟩)] w (NextPost W.heap.size W.heap.size Tol .i64 w)) := hide (fun w h => t_tol W.heap.size W.heap.size w w h (Upd.refl _ _))
 have KL : Hid (∀ w, TapeOk W.heap.size w W.heap.size → Calls Try.prog 15 #[.pointer (some ⟨W.heap.size, 0, none⟩), .int .i64 30] w (ValsPost 30 W.heap.size W.heap.size w)) := hide (fun w h => t_values 30 W.heap.size W.heap.size (by omega) w h)
 have KK := hide (fun w => l_known15 w)
 obtain ⟨n', hn'⟩ : ∃ k, min n 2000 = k := ⟨_, rfl⟩
 have en : min (n : Int) 2000 = (n' : Int) := by omega
 have rs := fun w => run_uptoT A n n' c (by omega) (by omega) w
 have HL := hide (hl.take n')
 have Hn : Hid ((l.take n').length = n') := hide (by rw [List.length_take]; omega)
 have hn2 : n' ≤ 2000 := by omega
 obtain ⟨l', hl'⟩ : ∃ z, l.take n' = z := ⟨_, rfl⟩
 rw [hl'] at HL Hn
 clear hL hl hn hn' hl'
 go_enter Try.func5, Try.ntmps5
 go_upto_region 4 with (first
   | (go_at_call 8; (with_reducible refine (KN.out).mono ?_); rintro e w1 ⟨rfl, hT, hE⟩; have T1 := hide hT; have E1 := hide hE; have kt := hide (KT.out w1 hT); clear hT hE)
   | (go_at_call 16; (with_reducible refine (kt.out).mono ?_); rintro e w2 ⟨eps, rfl, htol, hT2, U2⟩; have T2 := hide hT2; have E2 := hide (Upd.ext U2 E1.out (Nat.le_refl _)); have Htol := hide htol; have kl := hide (KL.out w2 hT2); have hgb : W.heap.size < w2.heap.size := (Nat.lt_of_lt_of_le T1.out.2.1 U2.2.2.2.1); clear htol U2 hT2))
 go_upto_region 5 with (go_at_call 15; (with_reducible refine (kl.out).mono ?_); rintro e w3 ⟨Am, nm, capm, m, rfl, hnm, hn30, hncap, hncap2, hO, hT3, hU3⟩; have S3 := hide (Bt.of E2.out T2.out hO hT3 hU3); clear hO hT3 hU3 hncap hncap2)
 have Q3 := Blk.new w3 36 #[.slice A n' c, .slice Am nm capm]
 have X4 := ext_alloc w3 (.cells #[.slice A n' c, .slice Am nm capm] 36)
 obtain ⟨g, hg⟩ : ∃ q, w3.heap.size = q := ⟨_, rfl⟩
 obtain ⟨w4, hw4⟩ : ∃ w, w3.alloc (.cells #[.slice A n' c, .slice Am nm capm] 36) = w := ⟨_, rfl⟩
 rw [hw4, hg] at Q3
 rw [hw4] at X4
 rw [hw4, hg]
 have Hnm := hide hnm
 have Hx : Hid (∀ (wr : World) (k : Nat), Ext w4 wr → k < 2 → ∃ (A : Option Addr) (n c : Nat) (l : List Int), wr.cell? ⟨g, k, none⟩ = some (.slice A n c) ∧ TimesAt wr A l ∧ l.length = n ∧ n ≤ 2000 ∧ ∀ w, Ext wr w → w.cell? ⟨g, k, none⟩ = some (.slice A n c) ∧ TimesAt w A l) := hide (fun wr k hE hk => by
   have q1 := Q3.ext hE
   have E11 := X4.trans hE
   obtain rfl | rfl : k = 0 ∨ k = 1 := by omega
   · exact ⟨A, n', c, l', q1.cell 0, (HL.out.ext S3.out.e).ext E11, Hn.out, hn2, fun w h => ⟨(q1.ext h).cell 0, ((HL.out.ext S3.out.e).ext E11).ext h⟩⟩
   · exact ⟨Am, nm, capm, m, q1.cell 1, S3.out.times.ext E11, Hnm.out, by omega, fun w h => ⟨(q1.ext h).cell 1, (S3.out.times.ext E11).ext h⟩⟩)
 have E4 := hide (S3.out.e.trans X4)
 have EW : Hid (Ext w4 w4) := Ext.refl _
 clear KN KT KL kt kl T1 T2 E1 E2 hw4 hg Q3 X4 S3 HL Hn hnm hgb rs en hn2
 go_upto_region 6 with fail
 go_loopw [8, 9, 10, 11, 12, 13] (fun iv _ _ _ _ _ wr => ∃ i : Nat, i ≤ 2 ∧ iv = .int .i64 (i : Int) ∧ Hid (Ext w4 wr)) (fun iv _ _ _ _ _ _ => 2 - (intOf iv).toNat)
 case atStart => exact ⟨0, by omega, rfl, EW⟩
 case round =>
   clear EW
   obtain ⟨i, hi, rfl, HE⟩ := hrel
   by_cases hi2 : i < 2
   · have d0 : decide ((i : Int) < 2) = true := decide_eq_true (by omega)
     obtain ⟨Am, nm, capm, m, ci, hM, hnm, hn20, HC⟩ := Hx.out wr i HE.out hi2
     have ixi := fun w => idxLL g 2 2 i hi2 w
     have HC := hide HC
     obtain ⟨r, hr⟩ : ∃ r, (allM eps m).map coM = r := ⟨_, rfl⟩
     obtain ⟨nr, hnr⟩ : ∃ k, r.length = k := ⟨_, rfl⟩
     have k1 := hide (p_allV Am nm capm m eps wr Htol.out hM hnm (by omega) r nr hr hnr)
     have HI := hide hM.1
     have Hr := hide hr
     have Hnm := hide hnm
     have Hnr : Hid ((allM eps m).length = nr) := hide (by rw [← hnr, ← hr, List.length_map])
     have hnr2 : nr ≤ 2000 := by have := allM_le eps m; have := Hnr.out; omega
     have HS0 := hide (segB0 (eps := eps) Htol.out.1 m)
     clear hr hnr hnm hM
     go_upto_region 11 with (go_at_call 17; (with_reducible refine (k1.out).mono ?_); rintro e w5 ⟨A4, c4, rfl, h4, hE5⟩; have S4 := hide h4; have E5 := hide hE5; clear h4 hE5 k1)
     obtain ⟨wo, hwo⟩ : ∃ wo, wo = wr := ⟨_, rfl⟩
     subst hwo
     have EW : Hid (Ext w5 w5) := Ext.refl _
     go_loopw [11, 12, 13] (fun av kv _ wr => ∃ k a : Nat, kv = .int .i64 (k : Int) ∧ av = .int .i64 (a : Int) ∧ k ≤ nr ∧ a ≤ nm ∧ Hid (SegB eps m (allM eps m) k a) ∧ Hid (Ext w5 wr)) (fun _ kv _ _ => nr - (intOf kv).toNat)
     case atStart => exact ⟨0, 0, rfl, rfl, by omega, by omega, HS0, EW⟩
     case round =>
       clear EW HS0
       obtain ⟨k, a, rfl, rfl, hk, ha, HS, HE2⟩ := hrel
       obtain ⟨ci2, hM2⟩ := HC.out wr (E5.out.trans HE2.out)
       by_cases hlt : k < nr
       · have d1 : decide ((k : Int) < (nr : Int)) = true := decide_eq_true (by omega)
         obtain ⟨q, lo', hi', hq, hq1, hq2, hq3, hrun, -, hS2⟩ := HS.out.next (by rw [Hnr.out]; exact hlt)
         have hget := co_get hq
         rw [Hr.out] at hget
         obtain ⟨md, hmd⟩ : ∃ z, (lo' + hi') / 2 = z := ⟨_, rfl⟩
         rw [hmd] at hget
         rw [Hnm.out] at hq2
         have hrl : r.length = nr := by rw [← Hr.out, List.length_map]; exact Hnr.out
         obtain ⟨b1, o1, rfl, _, hc⟩ := (S4.out.ext HE2.out).2.2 (by omega)
         have p1 := (hc k (by omega)).1
         have p2 := (hc k (by omega)).2
         rw [hget] at p1 p2
         dsimp only at p1 p2
         rw [← Nat.add_assoc] at p2
         obtain ⟨bm, om, rfl, _, hcm⟩ := hM2.2.2 (by rw [Hnm.out]; omega)
         have ix := fun w => idxC b1 o1 nr c4 k hlt w
         have C1 : Hid (∀ w, Ext wr w → w.cell? ⟨b1, o1 + 2 * k, none⟩ = some (.int .i64 (q : Int)) ∧ w.cell? ⟨b1, o1 + 2 * k + 1, none⟩ = some (.int .i64 md)) := hide fun w h => by
           obtain ⟨b', o', hA, hb', _⟩ := (S4.out.ext HE2.out).2.2 (by omega)
           cases hA
           exact ⟨(h.cell (p := ⟨b1, o1 + 2 * k, none⟩) hb').trans p1, (h.cell (p := ⟨b1, o1 + 2 * k + 1, none⟩) hb').trans p2⟩
         have CM : Hid (∀ w, Ext wr w → w.cell? ⟨g, i, none⟩ = some (.slice (some ⟨bm, om, none⟩) nm capm) ∧ ∀ j, j < nm → w.cell? ⟨bm, om + j, none⟩ = some (.int .i64 (m.getD j 0))) := hide fun w h => ⟨(HC.out w ((E5.out.trans HE2.out).trans h)).1, fun j hj => by
           obtain ⟨b', o', hA, hb', _⟩ := hM2.2.2 (by rw [Hnm.out]; omega)
           cases hA
           exact (h.cell (p := ⟨bm, om + j, none⟩) hb').trans (hcm j (by rw [Hnm.out]; exact hj))⟩
         have IX : Hid (∀ j, j < nm → ∀ w, (Instr.indexAt 36 (.slice (some ⟨bm, om, none⟩) nm capm) (.int .i64 (j : Int))).run Try.prog w = .ok (.pointer (some ⟨bm, om + j, none⟩)) w) := hide fun j hj w => idxT bm om nm capm j hj w
         have g1 : decide ((q : Int) < 1) = false := decide_eq_false (by omega)
         have e1 : IntKind.i64.wrap ((nm : Int) - (a : Int)) = (nm : Int) - (a : Int) := by rw [IntKind.wrap_i64]; omega
         have g2 : decide ((nm : Int) - (a : Int) < (q : Int)) = false := decide_eq_false (by omega)
         have Hrun := hide hrun
         have HS2 := hide hS2
         have Hmd := hide hmd
         have Hq3 := hide hq3
         have KI : Hid (I64 md) := hide (by
           obtain ⟨h1, h2, h3⟩ := run_mem hrun
           have a1 := HI.out _ h1
           have a2 := HI.out _ h2
           rw [← hmd]
           unfold I64 at *
           omega)
         clear hc hcm hget hrl hq hrun hS2 hmd hq3
         go_upto_region 13 with fail
         have cp1 := fun d os => cell_regrown p1 d os
         have ci3 := fun d os => cell_regrown ci2 d os
         refine wp_region_quiet_below (by kernel_rfl) (by kernel_rfl) ?_
         repeat (first | go_big_quiet_step (fail) | quiet_step (fail))
         refine wpQuiet_nil ?_
         intro _ hw'
         obtain ⟨⟨dq, osq⟩, hw''⟩ := hw'
         subst hw''
         have E6 := hide (ext_regrown wr dq osq)
         obtain ⟨w6, hw6⟩ : ∃ w, grow (redrawn wr dq) osq = w := ⟨_, rfl⟩
         rw [hw6] at E6 ⊢
         clear hw6 cp1 ci3 p1 p2 g1 g2 e1 ci2
         obtain ⟨wo2, hwo2⟩ : ∃ wo, wo = wr := ⟨_, rfl⟩
         subst hwo2
         go_upto_region 16 with fail
         go_loopw [11, 13] (fun av tv wr => ∃ t : Nat, t ≤ q ∧ tv = .int .i64 (t : Int) ∧ av = .int .i64 ((a + t : Nat) : Int) ∧ Hid (Ext wo2 wr)) (fun _ tv _ => q - (intOf tv).toNat)
         case atStart => exact ⟨0, by omega, rfl, rfl, E6⟩
         case round =>
           clear E6
           obtain ⟨t, ht, rfl, rfl, HE3⟩ := hrel
           obtain ⟨cc1, cc2⟩ := C1.out wr HE3.out
           by_cases htq : t < q
           · have d2 : decide ((t : Int) < (q : Int)) = true := decide_eq_true (by omega)
             have haj : a + t < nm := by omega
             have ixj := IX.out (a + t) haj
             obtain ⟨ci4, cm4⟩ := CM.out wr HE3.out
             have cj := cm4 (a + t) haj
             have hx := run_getD Hrun.out htq (by rw [Hnm.out]; exact hq2)
             have ixx := HI.out.get (a + t)
             obtain ⟨xj, hxj⟩ : ∃ z, m.getD (a + t) 0 = z := ⟨_, rfl⟩
             rw [hxj] at cj hx ixx
             have hnv := near_mid Hq3.out hx.1 hx.2 Hmd.out
             have KNr : Hid (∀ w, Calls Try.prog 20 #[.int .i64 xj, .int .i64 md, .int .i64 eps] w (Ret (.bool true) w)) := hide fun w => (r_nearS xj md eps w ixx KI.out (tol64 Htol.out) true hnv).mono fun e w' h => ⟨h.1, h.2 ▸ Ext.refl _⟩
             obtain ⟨aj, haje⟩ : ∃ z : Nat, a + t = z := ⟨_, rfl⟩
             rw [haje] at ixj cj ⊢
             have haj1 : a + (t + 1) = aj + 1 := by omega
             have hajn : aj < nm := by omega
             clear hxj hx hnv cm4 ixx
             go_upto_region 18 with fail
             have cj2 := fun d os => cell_regrown cj d os
             have cc3 := fun d os => cell_regrown cc2 d os
             have ci5 := fun d os => cell_regrown ci4 d os
             refine wp_region_quiet_below (by kernel_rfl) (by kernel_rfl) ?_
             repeat (first | go_big_quiet_step (first | with_reducible exact quiet_ret (KNr.out _)) | quiet_step (first | with_reducible exact quiet_ret (KNr.out _)))
             refine wpQuiet_nil ?_
             intro _ hw'
             obtain ⟨⟨dq, osq⟩, hw''⟩ := hw'
             subst hw''
             have E7 := hide (HE3.out.trans (ext_regrown wr dq osq))
             obtain ⟨w7, hw7⟩ : ∃ w, grow (redrawn wr dq) osq = w := ⟨_, rfl⟩
             rw [hw7] at E7 ⊢
             clear hw7 cj2 cj ixj cc1 cc2 cc3 ci4 ci5 HE3
             go_wp2_with fail
             go_roundw
             case rel => exact ⟨t + 1, by omega, by go_num, by rw [haj1]; go_num, E7⟩
             case measure => simp [intOf]; omega
           · obtain rfl : t = q := by omega
             have d2 : decide ((t : Int) < (t : Int)) = false := decide_eq_false (by omega)
             obtain ⟨p, hp⟩ : ∃ z : Nat, a + t = z := ⟨_, rfl⟩
             rw [hp] at HS2 hq2 ⊢
             have E7 := hide (HE2.out.trans HE3.out)
             clear HE3 cc2
             go_wp2_with fail
             go_roundw
             case rel => exact ⟨k + 1, p, by go_num, rfl, by omega, by omega, HS2, E7⟩
             case measure => simp [intOf]; omega
       · obtain rfl : k = nr := by omega
         have d1 : decide ((k : Int) < (k : Int)) = false := decide_eq_false (by omega)
         have hae := HS.out.end_ Hnr.out.symm
         rw [Hnm.out] at hae
         subst hae
         have b1 : ((a : Int) != (a : Int)) = false := by simp
         have E7 := hide ((HE.out.trans E5.out).trans HE2.out)
         clear HS HE2
         go_wp2_with fail
         go_roundw
         case rel => exact ⟨i + 1, by omega, by go_num, E7⟩
         case measure => simp [intOf]; omega
   · obtain rfl : i = 2 := by omega
     have d0 : decide (((2 : Nat) : Int) < 2) = false := by decide
     have EE := hide (E4.out.trans HE.out)
     clear HE
     go_wp2_with (go_at_call 13; (with_reducible refine (KK.out _).mono ?_); rintro e w8 ⟨rfl, hE⟩; have E8 := hide (EE.out.trans hE); clear hE)
     go_ret
     exact ⟨rfl, E8.out⟩
end
section
open Go Go.RowKit Go.Sort
def OwnV (B : Nat) (w : World) (v : Value) (vs : List Value) : Prop := w.ownsRow B 63 1 v vs.length vs ∧ ∀ u ∈ vs, u.oneCell' = true
theorem OwnV.nil_ (B : Nat) (w : World) : OwnV B w (.slice none 0 0) [] := ⟨World.ownsRow_nil _ _ _ _, by simp⟩
theorem OwnV.kept {B : Nat} {w w' : World} {v : Value} {l : List Value} (h : OwnV B w v l) {row : Option Nat} (hg : w.grownBy w' row) (hne : v.ownBlock = none ∨ v.ownBlock ≠ row) : OwnV B w' v l := ⟨h.1.kept hg hne, h.2⟩
theorem OwnV.alloc {B : Nat} {w : World} {v : Value} {l : List Value} (h : OwnV B w v l) (o : Obj) : OwnV B (w.alloc o) v l := ⟨h.1.alloc o, h.2⟩
theorem OwnV.ext {B : Nat} {w w' : World} {v : Value} {l : List Value} (h : OwnV B w v l) (e : Ext w w') : OwnV B w' v l := by
 refine ⟨?_, h.2⟩
 obtain ⟨h1, h2 | ⟨g, cap, cur, hv, hg, hh, r⟩⟩ := h.1
 · exact ⟨h1, Or.inl h2⟩
 · exact ⟨h1, Or.inr ⟨g, cap, cur, hv, hg, by rw [e.block g (Array.getElem?_eq_some_iff.1 hh).1]; exact hh, r⟩⟩
theorem OwnV.less {B B' : Nat} {w : World} {v : Value} {l : List Value} (h : OwnV B w v l) (hB : B' ≤ B) : OwnV B' w v l := by
 refine ⟨?_, h.2⟩
 obtain ⟨h1, h2 | ⟨g, cap, cur, hv, hg, r⟩⟩ := h.1
 · exact ⟨h1, Or.inl h2⟩
 · exact ⟨h1, Or.inr ⟨g, cap, cur, hv, by omega, r⟩⟩
theorem OwnV.at_ {B : Nat} {w : World} {v : Value} {l : List Value} (h : OwnV B w v l) : ∃ A cap, v = .slice A l.length cap ∧ l.length ≤ cap ∧ cap ≤ 9223372036854775807 ∧ (0 < l.length → ∃ g, A = some ⟨g, 0, none⟩ ∧ B ≤ g ∧ g < w.heap.size ∧ ∀ j u, l[j]? = some u → w.cell? ⟨g, j, none⟩ = some u) := by
 rcases h.1.2 with ⟨rfl, h0⟩ | ⟨g, cap, cur, rfl, hg, hh, hnc, hcp, hcs, htake⟩
 · exact ⟨none, 0, by rw [h0], by omega, by omega, fun hp => by omega⟩
 · unfold maxLen at hcp
   refine ⟨_, cap, rfl, hnc, hcp, fun _ => ⟨g, rfl, hg, (Array.getElem?_eq_some_iff.1 hh).1, fun j u hu => ?_⟩⟩
   have := h.1.cells (g := g) rfl j u hu
   have e : (⟨g, 0, none⟩ : Addr).add j = ⟨g, 0 + j, none⟩ := by unfold Addr.add; split <;> simp_all
   rw [e, Nat.zero_add] at this
   exact this
def PartsAt (B : Nat) (w : World) (vs : List Value) (ps : List (List (Int × Int))) : Prop := vs.length = ps.length ∧ ∀ i, i < vs.length → OwnS B w (vs.getD i (.slice none 0 0)) (ps.getD i [])
theorem PartsAt.ext {B : Nat} {w w' : World} {vs : List Value} {ps : List (List (Int × Int))} (h : PartsAt B w vs ps) (e : Ext w w') : PartsAt B w' vs ps := ⟨h.1, fun i hi => (h.2 i hi).ext e⟩
structure Cs (W : World) (w : World) (ov : Value) (vs : List Value) (ps : List (List (Int × Int))) (pv : Value) (p : List (Int × Int)) : Prop where
 e : Ext W w
 o : OwnV W.heap.size w ov vs
 p : OwnS W.heap.size w pv p
 ps : PartsAt W.heap.size w vs ps
 n1 : ∀ g, ov.ownBlock = some g → pv.ownBlock ≠ some g
 n2 : ∀ i, i < vs.length → ∀ g, (vs.getD i (.slice none 0 0)).ownBlock = some g → pv.ownBlock ≠ some g ∧ ov.ownBlock ≠ some g
section
variable {W w w' : World} {ov : Value} {vs : List Value} {ps : List (List (Int × Int))} {pv : Value} {p : List (Int × Int)}
theorem Cs.ext (s : Cs W w ov vs ps pv p) (k : Ext w w') : Cs W w' ov vs ps pv p := ⟨s.e.trans k, s.o.ext k, s.p.ext k, s.ps.ext k, s.n1, s.n2⟩
end
end
section
open Go Go.RowKit Go.Sort
theorem idxN (b off N cap j : Nat) (h : j < N) (w : World) : (Instr.indexAt 24 (.slice (some ⟨b, off, none⟩) N cap) (.int .i64 (j : Int))).run Try.prog w = .ok (.pointer (some ⟨b, off + j, none⟩)) w := by
 have hz := Try.sizeOf3
 have he : Try.prog.elem 24 = 3 := by kernel_rfl
 have hr := run_indexAt_slice (P := Try.prog) (w := w) 24 ⟨b, off, none⟩ N cap .i64 (j : Int) (by kernel_rfl)
 rw [hr, if_pos ⟨by omega, by omega⟩, he, hz]
 simp [Result.andThen, add_at]
end
section
open Go Go.RowKit Go.Sort
theorem info_i64n : (Try.prog.info? 3).map (fun i => (i.zero, i.size, i.bytes)) = some (some (.int .i64 0), 1, 8) := by kernel_rfl
theorem run_mkN (n m : Nat) (hnm : n ≤ m) (hm : m ≤ 35184372088832) (w : World) : (Instr.makeSlice 24 (.int .i64 (n : Int)) (.int .i64 (m : Int))).run Try.prog w = .ok (.slice (some ⟨w.heap.size, 0, none⟩) n m) (w.alloc (.cells (t8s (List.replicate m 0)).toArray 3)) := by
 obtain ⟨i0, hi0, hz0, hz1, hz2⟩ := info_parts info_i64n
 have := run_make (P := Try.prog) w 24 3 i0 (.int .i64 0) Try.underlying24 hi0 hz0 .i64 .i64 (n : Int) (m : Int) (by omega) (by omega) (by rw [hz2]; omega) (by omega)
 rw [this, hz1, Int.toNat_natCast, Int.toNat_natCast]
 have e : madeCells (Value.int .i64 0).cells (m * 1) = (t8s (List.replicate m 0)).toArray := by
   rw [← madeT m]
 rw [e]
theorem t8_get {bs : List Int} {j : Nat} (h : j < bs.length) : (t8s bs).toArray[j]? = some (.int .i64 (bs.getD j 0)) := by
 simp [t8s, List.getD_eq_getElem?_getD, h]
theorem t8_set (bs : List Int) (j : Nat) (y : Int) : (t8s bs).toArray.setIfInBounds j (.int .i64 y) = (t8s (bs.set j y)).toArray := by
 rw [List.setIfInBounds_toArray]
 simp [t8s, List.map_set]
theorem blk_setN {w : World} {g : Nat} {T : TypeId} {bs : List Int} (h : Blk w g T (t8s bs).toArray) (j : Nat) (y : Int) : Blk (w.setCell ⟨g, j, none⟩ (.int .i64 y)) g T (t8s (bs.set j y)).toArray := by
 have := h.set_ j (.int .i64 y)
 rw [t8_set] at this
 exact this
theorem set_get {bs : List Int} {i j : Nat} {y : Int} (h : i < bs.length) : (bs.set i y).getD j 0 = if j = i then y else bs.getD j 0 := by
 by_cases e : j = i
 · subst e; simp [List.getD_eq_getElem?_getD, h]
 · simp [List.getD_eq_getElem?_getD, List.getElem?_set_ne (fun h => e h.symm), e]
theorem getLT {l : List Int} {j : Nat} (h : j < l.length) : l[j]? = some (l.getD j 0) := by rw [List.getElem?_eq_getElem h]; simp [List.getD_eq_getElem?_getD, h]
structure Cur (eps : Int) (l : List Int) (i t : Nat) (cur : Nat) : Prop where
 le : cur ≤ i
 lo : cntM eps l i ≤ cur
 all : ∀ j lo hi, t ≤ j → j < i → RunM l j i lo hi → hi - lo ≤ 2 * eps → cur ≤ cntM eps l j + 1
theorem cur0 (eps : Int) (l : List Int) (i : Nat) : Cur eps l i i i := ⟨Nat.le_refl _, cnt_le eps l i, fun j lo hi h1 h2 => by omega⟩
theorem Cur.yes {eps : Int} {l : List Int} {i t cur : Nat} {lo hi : Int} (h : Cur eps l i (t + 1) cur) (hr : RunM l t i lo hi) (hti : t < i) (hf : hi - lo ≤ 2 * eps) : Cur eps l i t (min cur (cntM eps l t + 1)) := by
 have a := h.le
 have b := h.lo
 have c := run_cnt hr (by omega) hf
 refine ⟨by omega, by omega, fun j lo' hi' h1 h2 h3 h4 => ?_⟩
 by_cases e : j = t
 · subst e; omega
 · have := h.all j lo' hi' (by omega) h2 h3 h4
   omega
theorem Cur.no {eps : Int} {l : List Int} {i t cur : Nat} {lo hi : Int} (h : Cur eps l i (t + 1) cur) (hr : RunM l t i lo hi) (hf : ¬ hi - lo ≤ 2 * eps) : Cur eps l i t cur :=
 ⟨h.le, h.lo, fun j lo' hi' h1 h2 h3 h4 => by
   by_cases e : j = t
   · subst e
     obtain ⟨e1, e2⟩ := run_uniq hr h3
     omega
   · exact h.all j lo' hi' (by omega) h2 h3 h4⟩
def HiLo (l : List Int) (t i : Nat) (lo hi : Int) : Prop := (t = i ∧ l[i - 1]? = some lo ∧ hi = lo) ∨ (t < i ∧ RunM l t i lo hi)
theorem HiLo.next {l : List Int} {t i : Nat} {lo hi v : Int} (h : HiLo l (t + 1) i lo hi) (hv : l[t]? = some v) (hti : t < i) : RunM l t i (min lo v) (max hi v) := by
 rcases h with ⟨h1, h2, h3⟩ | ⟨h1, h2⟩
 · have e : t = i - 1 := by omega
   subst e
   have e2 : lo = v := by rw [h2] at hv; exact Option.some.inj hv
   rw [h3, e2, Int.min_self, Int.max_self]
   have := run_start hv
   rw [show i - 1 + 1 = i by omega] at this
   exact this
 · exact run_more h2 hv hti
set_option maxHeartbeats 6400000 in
set_option maxRecDepth 100000 in
theorem l_least (A : Option Addr) (n c : Nat) (l : List Int) (eps : Int) (W : World) (he : Tol eps) (hl : TimesAt W A l) (hn : l.length = n) (hn2 : n ≤ 1000) : Calls Try.prog 22 #[.slice A n c, .int .i64 eps] W (Ret (.int .i64 (cntM eps l n : Nat)) W) := by
 have mk : ∀ w, (Instr.makeSlice 24 (.int .i64 ((n : Int) + 1)) (.int .i64 ((n : Int) + 1))).run Try.prog w = .ok (.slice (some ⟨w.heap.size, 0, none⟩) (n + 1) (n + 1)) (w.alloc (.cells (t8s (List.replicate (n + 1) 0)).toArray 3)) := fun w => run_mkN (n + 1) (n + 1) (Nat.le_refl _) (by omega) w
 have B1 := Blk.new W 3 (t8s (List.replicate (n + 1) 0)).toArray
 have E1 := ext_alloc W (.cells (t8s (List.replicate (n + 1) 0)).toArray 3)
 obtain ⟨g, hg⟩ : ∃ q, W.heap.size = q := ⟨_, rfl⟩
 obtain ⟨w1, hw1⟩ : ∃ w, W.alloc (.cells (t8s (List.replicate (n + 1) 0)).toArray 3) = w := ⟨_, rfl⟩
 have Hg := hide hg
 have Hw := hide hw1
 rw [hw1, hg] at B1
 rw [hw1] at E1
 have Hl := hide hl
 have Hn := hide hn
 have He := hide he
 have HI := hide hl.1
 have E1 := hide E1
 obtain ⟨bs0, hbs⟩ : ∃ z, List.replicate (n + 1) (0 : Int) = z := ⟨_, rfl⟩
 have Hb0 : Hid (bs0.length = n + 1 ∧ ∀ j, j < 1 → bs0.getD j 0 = ((cntM eps l j : Nat) : Int)) := hide (by
   subst hbs
   refine ⟨by simp, fun j hj => ?_⟩
   obtain rfl : j = 0 := by omega
   have := cnt_le eps l 0
   have e : cntM eps l 0 = 0 := by omega
   rw [e]
   simp [List.getD_eq_getElem?_getD])
 rw [hbs] at B1 mk Hw
 have B1 := hide B1
 clear hl hn he hg hw1 hbs
 go_enter Try.func22, Try.ntmps22
 go_upto_region 3 with fail
 rw [Hw.out, Hg.out]
 clear Hw mk
 go_loopw [6, 7, 8, 9] (fun iv _ _ _ wr => ∃ (i : Nat) (bs : List Int), 1 ≤ i ∧ i ≤ n + 1 ∧ iv = .int .i64 (i : Int) ∧ Hid (bs.length = n + 1 ∧ ∀ j, j < i → bs.getD j 0 = ((cntM eps l j : Nat) : Int)) ∧ Hid (Blk wr g 3 (t8s bs).toArray) ∧ Hid (Ext W wr)) (fun iv _ _ _ _ => n + 1 - (intOf iv).toNat)
 case atStart => exact ⟨1, bs0, by omega, by omega, rfl, Hb0, B1, E1⟩
 case round =>
   clear Hb0 B1 E1
   obtain ⟨i, bs, hi1, hi2, rfl, HB, HP, HE⟩ := hrel
   by_cases hin : i ≤ n
   · have d0 : decide ((i : Int) ≤ (n : Int)) = true := decide_eq_true (by omega)
     obtain ⟨hbl, hbv⟩ := HB.out
     obtain ⟨bm, om, rfl, hbm, hcm⟩ := (Hl.out.ext HE.out).2.2 (by rw [Hn.out]; omega)
     have ixi := fun w => idxN g 0 (n + 1) (n + 1) i (by omega) w
     simp only [Nat.zero_add] at ixi
     have ci := (HP.out.cell i).trans (t8_get (by rw [hbl]; omega))
     have fi := HP.out.frozen i
     obtain ⟨s, hs⟩ : ∃ s, i = s + 1 := ⟨i - 1, by omega⟩
     have hlv := getLT (l := l) (j := s) (by rw [Hn.out]; omega)
     have ixs := fun w => idxT bm om n c s (by omega) w
     have es : IntKind.i64.wrap ((i : Int) - 1) = (s : Int) := by rw [IntKind.wrap_i64]; omega
     have es2 : (i : Int) - 1 = (s : Int) := by omega
     obtain ⟨x0, hx0⟩ : ∃ z, l.getD s 0 = z := ⟨_, rfl⟩
     rw [hx0] at hlv
     have HH : Hid (HiLo l i i x0 x0) := hide (Or.inl ⟨rfl, by rw [show i - 1 = s by omega]; exact hlv, rfl⟩)
     have U5 := upd_set wr g i (.int .i64 (i : Int))
     have P5 := blk_setN HP.out i (i : Int)
     have E5 := U5.ext HE.out (Nat.le_of_eq Hg.out)
     have B5 : Hid ((bs.set i (i : Int)).length = n + 1 ∧ (bs.set i (i : Int)).getD i 0 = ((i : Nat) : Int) ∧ ∀ j, j < i → (bs.set i (i : Int)).getD j 0 = ((cntM eps l j : Nat) : Int)) := hide ⟨by rw [List.length_set]; exact hbl, by rw [set_get (by rw [hbl]; omega), if_pos rfl], fun j hj => by rw [set_get (by rw [hbl]; omega), if_neg (by omega)]; exact hbv j hj⟩
     have C5 : Hid (Cur eps l i i i) := hide (cur0 eps l i)
     obtain ⟨bs5, hbs5⟩ : ∃ z, bs.set i (i : Int) = z := ⟨_, rfl⟩
     rw [hbs5] at P5 B5
     obtain ⟨w5, hw5⟩ : ∃ w, wr.setCell ⟨g, i, none⟩ (.int .i64 (i : Int)) = w := ⟨_, rfl⟩
     rw [hw5] at P5 E5
     have Hw5 := hide hw5
     have cs5 : w5.cell? ⟨bm, om + s, none⟩ = some (.int .i64 x0) := by
       obtain ⟨b', o', hA, _, hc5⟩ := (Hl.out.ext E5).2.2 (by rw [Hn.out]; omega)
       cases hA
       have := hc5 s (by rw [Hn.out]; omega)
       rw [hx0] at this
       exact this
     have P5 := hide P5
     have E5 := hide E5
     have hsn : s < n := by omega
     clear hbl hbv hcm hbs5 hw5 U5 HB HP HE hx0 hlv hbm hs
     go_upto_region 6 with fail
     rw [Hw5.out]
     clear Hw5 ci fi ixi
     have cs6 := fun d os => cell_regrown cs5 d os
     refine wp_region_quiet_below (by kernel_rfl) (by kernel_rfl) ?_
     repeat (first | go_big_quiet_step (fail) | quiet_step (fail))
     refine wpQuiet_nil ?_
     intro _ hw'
     obtain ⟨⟨dq, osq⟩, hw''⟩ := hw'
     subst hw''
     have P6 := hide (P5.out.ext (ext_regrown w5 dq osq))
     have E6 := hide (E5.out.trans (ext_regrown w5 dq osq))
     obtain ⟨w6, hw6⟩ : ∃ w, grow (redrawn w5 dq) osq = w := ⟨_, rfl⟩
     rw [hw6] at P6 E6 ⊢
     clear hw6 cs6 cs5 P5 E5 ixs
     go_upto_region 8 with fail
     have rel0 : ∃ (t cur : Nat) (lo hi : Int) (bs' : List Int), t ≤ i ∧ Value.int .i64 (s : Int) = .int .i64 ((t : Int) - 1) ∧ Value.int .i64 x0 = .int .i64 lo ∧ Value.int .i64 x0 = .int .i64 hi ∧ Hid (HiLo l t i lo hi) ∧ Hid (Cur eps l i t cur) ∧ Hid (bs'.length = n + 1 ∧ bs'.getD i 0 = ((cur : Nat) : Int) ∧ ∀ j, j < i → bs'.getD j 0 = ((cntM eps l j : Nat) : Int)) ∧ Hid (Blk w6 g 3 (t8s bs').toArray) ∧ Hid (Ext W w6) := ⟨i, i, x0, x0, bs5, Nat.le_refl _, by rw [es2], rfl, rfl, HH, C5, B5, P6, E6⟩
     clear HH C5 B5 P6 E6 es es2
     go_loopw [7, 8, 9] (fun lv hv jv wr => ∃ (t cur : Nat) (lo hi : Int) (bs' : List Int), t ≤ i ∧ jv = .int .i64 ((t : Int) - 1) ∧ lv = .int .i64 lo ∧ hv = .int .i64 hi ∧ Hid (HiLo l t i lo hi) ∧ Hid (Cur eps l i t cur) ∧ Hid (bs'.length = n + 1 ∧ bs'.getD i 0 = ((cur : Nat) : Int) ∧ ∀ j, j < i → bs'.getD j 0 = ((cntM eps l j : Nat) : Int)) ∧ Hid (Blk wr g 3 (t8s bs').toArray) ∧ Hid (Ext W wr)) (fun _ _ jv _ => (intOf jv + 1).toNat)
     case atStart => exact rel0
     case round =>
       clear rel0
       obtain ⟨t, cur, lo, hi, bs', hti, rfl, rfl, rfl, HL, HC, HB, HP, HE⟩ := hrel
       by_cases h0 : t = 0
       · subst h0
         have d1 : decide ((0 : Int) ≤ ((0 : Nat) : Int) - 1) = false := by decide
         have hcur := best_end He.out.1 hi1 (by rw [Hn.out]; exact hin) HC.out.lo (fun j lo hi h1 h2 h3 => HC.out.all j lo hi (Nat.zero_le _) h1 h2 h3)
         obtain ⟨b1, b2, b3⟩ := HB.out
         have HB2 : Hid (bs'.length = n + 1 ∧ ∀ j, j < i + 1 → bs'.getD j 0 = ((cntM eps l j : Nat) : Int)) := hide ⟨b1, fun j hj => by
           by_cases e : j = i
           · subst e; rw [b2, hcur]
           · exact b3 j (by omega)⟩
         clear hcur b1 b2 b3 HL HC HB
         go_wp2_with fail
         go_roundw
         case rel => exact ⟨i + 1, bs', by omega, by omega, by go_num, HB2, HP, HE⟩
         case measure => simp [intOf]; omega
       · obtain ⟨p, hp⟩ : ∃ p, t = p + 1 := ⟨t - 1, by omega⟩
         subst hp
         have ej : (((p + 1 : Nat) : Int) - 1) = (p : Int) := by omega
         rw [ej]
         have d1 : decide ((0 : Int) ≤ (p : Int)) = true := decide_eq_true (by omega)
         have hpn : p < n := by omega
         have ixp := fun w => idxT bm om n c p hpn w
         have hlv := getLT (l := l) (j := p) (by rw [Hn.out]; omega)
         have ixv := HI.out.get p
         have cp : wr.cell? ⟨bm, om + p, none⟩ = some (.int .i64 (l.getD p 0)) := by
           obtain ⟨b', o', hA, _, hc5⟩ := (Hl.out.ext HE.out).2.2 (by rw [Hn.out]; omega)
           cases hA
           exact hc5 p (by rw [Hn.out]; omega)
         obtain ⟨x, hx⟩ : ∃ z, l.getD p 0 = z := ⟨_, rfl⟩
         rw [hx] at cp hlv ixv
         have hrun := HL.out.next hlv (by omega)
         obtain ⟨hm1, hm2, hle⟩ := run_mem hrun
         have il := HI.out _ hm1
         have ih := HI.out _ hm2
         have hd : (((min lo x - max hi x).natAbs : Nat) : Int) = max hi x - min lo x := by omega
         have KD : Hid (∀ w, Calls Try.prog 24 #[.int .i64 (min lo x), .int .i64 (max hi x)] w (RetSame (.int .u64 ((min lo x - max hi x).natAbs : Nat)) w)) := hide fun w => r_dist _ _ w il ih
         obtain ⟨d, hdd⟩ : ∃ d, (min lo x - max hi x).natAbs = d := ⟨_, rfl⟩
         rw [hdd] at KD hd
         obtain ⟨ht0, ht1⟩ := He.out
         have ec : IntKind.u64.wrap eps = eps := by rw [wrap_u64']; omega
         have e2 : IntKind.u64.wrap (2 * eps) = 2 * eps := by rw [wrap_u64']; omega
         have e3 : IntKind.u64.wrap (2 * IntKind.u64.wrap eps) = 2 * eps := by rw [ec, e2]
         have HL2 : Hid (HiLo l p i (min lo x) (max hi x)) := hide (Or.inr ⟨by omega, hrun⟩)
         have HR := hide hrun
         have hpi : p < i := by omega
         clear hx hlv hm1 hm2 hle ixv HL il ih h0 ej
         go_upto_region 10 with fail
         have cp2 := fun d os => cell_regrown cp d os
         refine wp_region_quiet_below (by kernel_rfl) (by kernel_rfl) ?_
         repeat (first | go_big_quiet_step (fail) | quiet_step (fail))
         refine wpQuiet_nil ?_
         intro _ hw'
         obtain ⟨⟨dq, osq⟩, hw''⟩ := hw'
         subst hw''
         replace HP := hide (HP.out.ext (ext_regrown wr dq osq))
         replace HE := hide (HE.out.trans (ext_regrown wr dq osq))
         obtain ⟨w7, hw7⟩ : ∃ w, grow (redrawn wr dq) osq = w := ⟨_, rfl⟩
         rw [hw7] at HP HE ⊢
         clear hw7 cp2 cp ixp
         by_cases hf : max hi x - min lo x ≤ 2 * eps
         · have d3 : decide ((d : Int) ≤ 2 * eps) = true := decide_eq_true (by omega)
           obtain ⟨b1, b2, b3⟩ := HB.out
           have HC2 := hide (HC.out.yes HR.out hpi hf)
           have hcl := HC.out.le
           have hcp := cnt_le eps l p
           have b3p := b3 p hpi
           obtain ⟨cq, hcq⟩ : ∃ z, cntM eps l p = z := ⟨_, rfl⟩
           rw [hcq] at hcp b3p HC2
           have ci : w7.cell? ⟨g, i, none⟩ = some (.int .i64 (cur : Int)) := by rw [← b2]; exact (HP.out.cell i).trans (t8_get (by rw [b1]; omega))
           have cj : w7.cell? ⟨g, p, none⟩ = some (.int .i64 (cq : Int)) := by rw [← b3p]; exact (HP.out.cell p).trans (t8_get (by rw [b1]; omega))
           have fi := HP.out.frozen i
           have ixi : ∀ w, (Instr.indexAt 24 (.slice (some ⟨g, 0, none⟩) (n + 1) (n + 1)) (.int .i64 (i : Int))).run Try.prog w = .ok (.pointer (some ⟨g, i, none⟩)) w := fun w => by have := idxN g 0 (n + 1) (n + 1) i (by omega) w; rwa [Nat.zero_add] at this
           have ixj : ∀ w, (Instr.indexAt 24 (.slice (some ⟨g, 0, none⟩) (n + 1) (n + 1)) (.int .i64 (p : Int))).run Try.prog w = .ok (.pointer (some ⟨g, p, none⟩)) w := fun w => by have := idxN g 0 (n + 1) (n + 1) p (by omega) w; rwa [Nat.zero_add] at this
           have ea : IntKind.i64.wrap ((cq : Int) + 1) = (cq : Int) + 1 := by rw [IntKind.wrap_i64]; omega
           obtain ⟨mn, hmn⟩ : ∃ z : Nat, min cur (cq + 1) = z := ⟨_, rfl⟩
           have em : min (cur : Int) ((cq : Int) + 1) = (mn : Int) := by omega
           rw [hmn] at HC2
           have P8 := blk_setN HP.out i (mn : Int)
           have E8 := (upd_set w7 g i (.int .i64 (mn : Int))).ext HE.out (Nat.le_of_eq Hg.out)
           have B8 : Hid ((bs'.set i (mn : Int)).length = n + 1 ∧ (bs'.set i (mn : Int)).getD i 0 = ((mn : Nat) : Int) ∧ ∀ j, j < i → (bs'.set i (mn : Int)).getD j 0 = ((cntM eps l j : Nat) : Int)) := hide ⟨by rw [List.length_set]; exact b1, by rw [set_get (by rw [b1]; omega), if_pos rfl], fun j hj => by rw [set_get (by rw [b1]; omega), if_neg (by omega)]; exact b3 j hj⟩
           have P8 := hide P8
           have E8 := hide E8
           clear b1 b2 b3 b3p hcq hmn hcl hcp HC HB HR hf hd
           go_upto_region 12 with (go_at_call 24; (with_reducible refine (KD.out _).mono ?_); rintro e w8 ⟨rfl, rfl⟩)
           go_region_law (fail)
           all_goals
             go_wp2_with fail
             go_roundw
             case rel => exact ⟨p, mn, min lo x, max hi x, bs'.set i (mn : Int), by omega, by go_num, rfl, rfl, HL2, HC2, B8, hide (P8.out.ext (ext_drew _)), hide (E8.out.trans (ext_drew _))⟩
             case measure => (simp [intOf]) <;> omega
         · have d3 : decide ((d : Int) ≤ 2 * eps) = false := decide_eq_false (by omega)
           have HC2 := hide (HC.out.no HR.out hf)
           clear HC HR hf hd
           go_wp2_with (go_at_call 24; (with_reducible refine (KD.out _).mono ?_); rintro e w8 ⟨rfl, rfl⟩)
           go_roundw
           case rel => exact ⟨p, cur, min lo x, max hi x, bs', by omega, by go_num, rfl, rfl, HL2, HC2, HB, HP, HE⟩
           case measure => (simp [intOf]) <;> omega
   · obtain rfl : i = n + 1 := by omega
     have d0 : decide (((n + 1 : Nat) : Int) ≤ (n : Int)) = false := decide_eq_false (by omega)
     obtain ⟨hbl, hbv⟩ := HB.out
     have hv := hbv n (by omega)
     have ixn : ∀ w, (Instr.indexAt 24 (.slice (some ⟨g, 0, none⟩) (n + 1) (n + 1)) (.int .i64 (n : Int))).run Try.prog w = .ok (.pointer (some ⟨g, n, none⟩)) w := fun w => by have := idxN g 0 (n + 1) (n + 1) n (by omega) w; rwa [Nat.zero_add] at this
     have cn : wr.cell? ⟨g, n, none⟩ = some (.int .i64 ((cntM eps l n : Nat) : Int)) := by rw [← hv]; exact (HP.out.cell n).trans (t8_get (by rw [hbl]; omega))
     clear hbl hbv hv HB HP
     go_wp2_with fail
     go_ret
     exact ⟨rfl, HE.out⟩
end
section
open Go Go.RowKit Go.Sort
theorem times_of_blk' {w : World} {g : Nat} {l : List Int} (h : Blk w g 2 (t8s l).toArray) (ht : IsT l) (hl : l.length ≤ 1048576) : TimesAt w (some ⟨g, 0, none⟩) l := by
 refine ⟨ht, by omega, fun _ => ⟨g, 0, rfl, h.lt, fun j hj => ?_⟩⟩
 rw [Nat.zero_add, h.cell]
 exact t8_get hj
def rm5 (x : Int) : Int := x.tmod 50
theorem rm5_i {x : Int} (h : I64 x) : I64 (rm5 x) := by
 unfold I64 rm5 at *
 have h1 := Int.natAbs_tmod x 50
 have h2 : x.natAbs % (50 : Int).natAbs < (50 : Int).natAbs := Nat.mod_lt _ (by decide)
 have : (50 : Int).natAbs = 50 := rfl
 omega
theorem mp_next (l : List Int) {j : Nat} (h : j < l.length) : (l.take (j + 1)).map rm5 = (l.take j).map rm5 ++ [rm5 (l.getD j 0)] := by
 rw [List.take_succ_eq_append_getElem h, List.map_append]
 simp [List.getD_eq_getElem?_getD, h]
set_option maxRecDepth 100000 in
set_option maxHeartbeats 6400000 in
theorem law_mleast (A : Option Addr) (n c : Nat) (l : List Int) (small : Int) (y : Option Addr) (len cap : Nat) (W : World) (hl : TimesAt W A l) (hn : l.length = n) (hnc : n ≤ c) (hc : c ≤ 17592186043904) (hsm : I64 small) (hL : IsList W y len cap) :
   Calls Try.prog 6 #[.slice A n c, .int .i64 small, .slice y len cap] W (Ret (.bool true) W) := by
 have KN : Hid (Calls Try.prog 8 #[.slice y len cap] W (NewPost W)) := t_new W y len cap hL
 have KT : Hid (∀ w, TapeOk W.heap.size w W.heap.size → Calls Try.prog 16 #[.pointer (some ⟨W.heap.size, 0, none⟩)] w (NextPost W.heap.size W.heap.size Tol .i64 w)) := hide (fun w h => t_tol W.heap.size W.heap.size w w h (Upd.refl _ _))
 have KL : Hid (∀ w, TapeOk W.heap.size w W.heap.size → Calls Try.prog 15 #[.pointer (some ⟨W.heap.size, 0, none⟩), .int .i64 30] w (ValsPost 30 W.heap.size W.heap.size w)) := hide (fun w h => t_values 30 W.heap.size W.heap.size (by omega) w h)
 have KM := hide (fun w => t_modI small 20 w hsm ⟨by omega, by omega⟩)
 have KK := hide (fun w => l_known15 w)
 have HL := hide hl
 have Hn := hide hn
 clear hL hl hn
 go_enter Try.func6, Try.ntmps6
 go_upto_region 2 with (go_at_call 8; (with_reducible refine (KN.out).mono ?_); rintro e w1 ⟨rfl, hT, hE⟩; have T1 := hide hT; have E1 := hide hE; clear hT hE)
 go_upto_if 19 with fail
 go_cut [0] from 19 to 21 (fun v wx => ∃ (n' : Nat) (l' : List Int), v = .slice A n' c ∧ n' ≤ 200 ∧ wx = w1 ∧ Hid (TimesAt W A l') ∧ Hid (l'.length = n'))
 case first =>
   by_cases h : 200 < n
   · have d0 : decide ((200 : Int) < (n : Int)) = true := decide_eq_true (by omega)
     have rs : ∀ w, (Instr.slice 36 (.slice A n c) none (some (.int .i64 200)) none).run Try.prog w = .ok (.slice A 200 c) w := fun w => run_uptoT A n 200 c (by omega) (by omega) w
     go_wp2_with fail
     go_meet
     case rel => exact ⟨200, l.take 200, rfl, by omega, rfl, hide (HL.out.take 200), hide (by rw [List.length_take, Hn.out]; omega)⟩
   · have d0 : decide ((200 : Int) < (n : Int)) = false := decide_eq_false (by omega)
     go_wp2_with fail
     go_meet
     case rel => exact ⟨n, l, rfl, by omega, rfl, HL, Hn⟩
 case rest =>
 obtain ⟨n', l', rfl, hn2, hwc, HL2, Hn2⟩ := hcut
 subst hwc
 have hmk := run_mkT n' n' (Nat.le_refl _) (by omega)
 rw [show List.replicate n' 0 = tst [] n' from rfl] at hmk
 have X2 := ext_alloc wc (.cells (t8s (tst [] n')).toArray 2)
 have B2 := Blk.new wc 2 (t8s (tst [] n')).toArray
 obtain ⟨b, hb⟩ : ∃ b, wc.heap.size = b := ⟨_, rfl⟩
 have hbg : W.heap.size < b := by rw [← hb]; exact T1.out.2.1
 obtain ⟨w2, hw2⟩ : ∃ w, wc.alloc (.cells (t8s (tst [] n')).toArray 2) = w := ⟨_, rfl⟩
 rw [hw2, hb] at B2
 rw [hw2] at X2
 have B2 : Hid (Blk w2 b 2 (t8s (tst ((l'.take 0).map rm5) (n' - 0))).toArray) := hide B2
 have E2 := hide (Ext.trans E1.out X2)
 have T2 := hide (T1.out.ext X2)
 have HI := hide HL2.out.1
 have Hw2 := hide hw2
 have Hb := hide hb
 clear hw2 hb X2
 go_upto_region 6 with fail
 rw [Hw2.out, Hb.out]
 clear Hw2 hmk
 have EW : Hid (Ext W w2 ∧ TapeOk W.heap.size w2 W.heap.size) := hide ⟨E2.out, T2.out⟩
 go_loopw [9] (fun iv wr => ∃ i : Nat, i ≤ n' ∧ iv = .int .i64 (i : Int) ∧ Hid (Blk wr b 2 (t8s (tst ((l'.take i).map rm5) (n' - i))).toArray) ∧ Hid (Ext W wr ∧ TapeOk W.heap.size wr W.heap.size)) (fun iv _ => n' - (intOf iv).toNat)
 case atStart => exact ⟨0, by omega, rfl, B2, EW⟩
 case round =>
   clear B2 EW E2 T2
   obtain ⟨i, hi, rfl, HB, HE⟩ := hrel
   by_cases hin : i < n'
   · have d0 : decide ((i : Int) < (n' : Int)) = true := decide_eq_true (by omega)
     have him : i < l'.length := by rw [Hn2.out]; exact hin
     obtain ⟨bm, om, rfl, _, hcm⟩ := (HL2.out.ext HE.out.1).2.2 (by omega)
     have ct := hcm i him
     have ix := fun w => idxT bm om n' c i hin w
     have iy := fun w => idxTB b n' n' i hin w
     have hj := HI.out.get i
     have htk := mp_next l' him
     obtain ⟨x, hx⟩ : ∃ z, l'.getD i 0 = z := ⟨_, rfl⟩
     rw [hx] at ct hj htk
     have hq := rm5_i hj
     obtain ⟨q, hqq⟩ : ∃ q, rm5 x = q := ⟨_, rfl⟩
     rw [hqq] at htk hq
     have hq2 : x.tmod 50 = q := hqq
     have er : IntKind.i64.wrap q = q := by unfold I64 at hq; rw [IntKind.wrap_i64]; omega
     have hll : ((l'.take i).map rm5).length = i := by rw [List.length_map, List.length_take]; omega
     have hnj : n' - i = (n' - (i + 1)) + 1 := by omega
     obtain ⟨T, hT⟩ : ∃ T, (l'.take i).map rm5 = T := ⟨_, rfl⟩
     rw [hT] at HB htk hll
     rw [hnj] at HB
     have HBs := tst_set T (n' - (i + 1)) q i hll
     have cx : wr.cell? ⟨b, i, none⟩ = some (.int .i64 0) := (HB.out.cell i).trans (tst_get T (n' - (i + 1)) i hll)
     have fx := HB.out.frozen i
     have B4 := HB.out.set_ i (.int .i64 q)
     rw [HBs, ← htk] at B4
     have B4 := hide B4
     have E4 : Hid (Ext W (wr.setCell ⟨b, i, none⟩ (.int .i64 q)) ∧ TapeOk W.heap.size (wr.setCell ⟨b, i, none⟩ (.int .i64 q)) W.heap.size) := hide ⟨(upd_set wr b i (.int .i64 q)).ext HE.out.1 (by omega), HE.out.2.store hbg (.int .i64 q)⟩
     clear hcm hx hqq hT htk hll hnj HB HE HBs him
     go_wp2_with fail
     go_roundw
     case rel => exact ⟨i + 1, by omega, by go_num, B4, E4⟩
     case measure => simp [intOf]; omega
   · obtain rfl : i = n' := by omega
     have d0 : decide ((i : Int) < (i : Int)) = false := decide_eq_false (by omega)
     have hB := HB.out
     rw [List.take_of_length_le (by rw [Hn2.out]; omega), show i - i = 0 by omega] at hB
     have F2 : Hid (TimesAt wr (some ⟨b, 0, none⟩) (l'.map rm5)) := hide (times_of_blk' (show Blk wr b 2 (t8s (l'.map rm5)).toArray by have := hB; simpa [tst] using this) (fun x hx => by obtain ⟨z, hz, rfl⟩ := List.mem_map.1 hx; exact rm5_i (HI.out z hz)) (by rw [List.length_map, Hn2.out]; omega))
     have kl := hide (KL.out wr HE.out.2)
     have Hf : Hid ((l'.map rm5).length = i) := hide (by rw [List.length_map]; exact Hn2.out)
     obtain ⟨lf, hlf⟩ : ∃ z, l'.map rm5 = z := ⟨_, rfl⟩
     rw [hlf] at F2 Hf
     clear hB HB hlf KL
     go_upto_region 10 with (go_at_call 15; (with_reducible refine (kl.out).mono ?_); rintro e w3 ⟨Am, nm, capm, m, rfl, hnm, hn30, hncap, hncap2, hO, hT3, hU3⟩; have S3 := hide (Bt.of HE.out.1 HE.out.2 hO hT3 hU3); have F3 := hide (F2.out.upd hU3 (fun g off h => by cases h; omega)); clear hO hT3 hU3 hncap hncap2)
     have Q4 := Blk.new w3 36 #[.slice A i c, .slice (some ⟨b, 0, none⟩) i i, .slice Am nm capm]
     have X4 := ext_alloc w3 (.cells #[.slice A i c, .slice (some ⟨b, 0, none⟩) i i, .slice Am nm capm] 36)
     obtain ⟨g, hg⟩ : ∃ q, w3.heap.size = q := ⟨_, rfl⟩
     have hgb : W.heap.size < g := by rw [← hg]; exact S3.out.t.2.1
     obtain ⟨w4, hw4⟩ : ∃ w, w3.alloc (.cells #[.slice A i c, .slice (some ⟨b, 0, none⟩) i i, .slice Am nm capm] 36) = w := ⟨_, rfl⟩
     rw [hw4, hg] at Q4
     rw [hw4] at X4
     rw [hw4, hg]
     have Q4 := hide Q4
     have S4 := hide (S3.out.ext X4)
     have F4 := hide (F3.out.ext X4)
     have kt := hide (KT.out w4 S4.out.t)
     have Hnm := hide hnm
     clear hw4 hg X4 S3 F3 F2 HE hnm kl
     go_upto_region 11 with (first
       | (go_at_call 16; (with_reducible refine (kt.out).mono ?_); rintro e w5 ⟨t0, rfl, ht0, hT5, hU5⟩; have S5 := hide (S4.out.upd hU5 hT5); have U5 := hide hU5; have Ht0 := hide ht0; have kt2 := hide (KT.out w5 hT5); clear ht0 hT5 hU5 kt)
       | (go_at_call 21; (with_reducible refine (KM.out _).mono ?_); rintro e w6 ⟨t1, rfl, ht1, rfl⟩; have h10 := ht1.1; have h11 := ht1.2.1 (by omega); clear ht1)
       | (go_at_call 16; (with_reducible refine (kt2.out).mono ?_); rintro e w7 ⟨t2, rfl, ht2, hT7, hU7⟩; have S7 := hide (S5.out.upd hU7 hT7); have U7 := hide (U5.out.trans hU7); have Ht2 := hide ht2; clear ht2 hT7 hU7 kt2))
     have Ht1 : Hid (Tol t1) := hide ⟨h10, by omega⟩
     have Q7 : Blk w7 g _ _ := (U7.out.2.2.2.2 g Q4.out.lt (by omega)).trans Q4.out
     have F7 := F4.out.upd U7.out (fun g' off h => by cases h; omega)
     have P8 := Blk.new w7 2 #[.int .i64 t0, .int .i64 t1, .int .i64 t2]
     have X8 := ext_alloc w7 (.cells #[.int .i64 t0, .int .i64 t1, .int .i64 t2] 2)
     obtain ⟨g2, hg2⟩ : ∃ q, w7.heap.size = q := ⟨_, rfl⟩
     obtain ⟨w8, hw8⟩ : ∃ w, w7.alloc (.cells #[.int .i64 t0, .int .i64 t1, .int .i64 t2] 2) = w := ⟨_, rfl⟩
     rw [hw8, hg2] at P8
     rw [hw8] at X8
     rw [hw8, hg2]
     have Hx : Hid (∀ (wr : World) (k : Nat), Ext w8 wr → k < 3 → ∃ (A : Option Addr) (n c : Nat) (l : List Int) (t : Int), wr.cell? ⟨g, k, none⟩ = some (.slice A n c) ∧ wr.cell? ⟨g2, k, none⟩ = some (.int .i64 t) ∧ TimesAt wr A l ∧ l.length = n ∧ n ≤ 200 ∧ Tol t ∧ ∀ w, Ext wr w → w.cell? ⟨g, k, none⟩ = some (.slice A n c) ∧ w.cell? ⟨g2, k, none⟩ = some (.int .i64 t) ∧ TimesAt w A l) := hide (fun wr k hE hk => by
       have q1 := (Q7.ext X8).ext hE
       have q2 := P8.ext hE
       have e8 := X8.trans hE
       have eW := S7.out.e.trans e8
       obtain rfl | rfl | rfl : k = 0 ∨ k = 1 ∨ k = 2 := by omega
       · exact ⟨A, i, c, l', t0, q1.cell 0, q2.cell 0, HL2.out.ext eW, Hn2.out, hn2, Ht0.out, fun w h => ⟨(q1.ext h).cell 0, (q2.ext h).cell 0, HL2.out.ext (eW.trans h)⟩⟩
       · exact ⟨some ⟨b, 0, none⟩, i, i, lf, t1, q1.cell 1, q2.cell 1, F7.ext e8, Hf.out, hn2, Ht1.out, fun w h => ⟨(q1.ext h).cell 1, (q2.ext h).cell 1, F7.ext (e8.trans h)⟩⟩
       · exact ⟨Am, nm, capm, m, t2, q1.cell 2, q2.cell 2, S7.out.times.ext e8, Hnm.out, by omega, Ht2.out, fun w h => ⟨(q1.ext h).cell 2, (q2.ext h).cell 2, S7.out.times.ext (e8.trans h)⟩⟩)
     have E8 := hide (S7.out.e.trans X8)
     have EW : Hid (Ext w8 w8) := Ext.refl _
     clear hw8 hg2 Q7 F7 P8 X8 S7 U7 S5 U5 F4 Q4 S4 Ht0 Ht1 Ht2 HL2 Hn2 Hf Hnm h10 h11 KM KT KN T1 E1
     go_upto_region 12 with fail
     go_loopw [12, 13, 14] (fun kv _ _ wr => ∃ k : Nat, k ≤ 3 ∧ kv = .int .i64 (k : Int) ∧ Hid (Ext w8 wr)) (fun kv _ _ _ => 3 - (intOf kv).toNat)
     case atStart => exact ⟨0, by omega, rfl, EW⟩
     case round =>
       clear EW
       obtain ⟨k, hk, rfl, HE⟩ := hrel
       by_cases hk3 : k < 3
       · have d1 : decide ((k : Int) < 3) = true := decide_eq_true (by omega)
         obtain ⟨Am, nm, capm, m, eps, ci, ce, hM, hnm, hn200, htol, HC⟩ := Hx.out wr k HE.out hk3
         have ixi := fun w => idxLL g 3 3 k hk3 w
         have ixe := fun w => idxTB g2 3 3 k hk3 w
         obtain ⟨r, hr⟩ : ∃ r, (allM eps m).map coM = r := ⟨_, rfl⟩
         obtain ⟨nr, hnr⟩ : ∃ z, r.length = z := ⟨_, rfl⟩
         have HC := hide HC
         have k1 : Hid (∀ w, Ext wr w → Calls Try.prog 17 #[.slice Am nm capm, .int .i64 eps] w fun e w' => ∃ A1 c1, e = .returned (.tuple #[.slice A1 nr c1, .int .i64 0]) ∧ Ext w w') := hide fun w h => (p_allV Am nm capm m eps w htol (HC.out w h).2.2 hnm (by omega) r nr hr hnr).mono fun e w' ⟨A1, c1, h1, _, h3⟩ => ⟨A1, c1, h1, h3⟩
         have hcn : cntM eps m nm = nr := by unfold cntM; rw [List.take_of_length_le (by omega), ← hnr, ← hr, List.length_map]
         have k2 : Hid (∀ w, TimesAt w Am m → Calls Try.prog 22 #[.slice Am nm capm, .int .i64 eps] w (Ret (.int .i64 (nr : Int)) w)) := hide fun w h => by
           have := l_least Am nm capm m eps w htol h hnm (by omega)
           rwa [hcn] at this
         clear hr hnr hM htol hcn
         go_upto_region 14 with fail
         go_region_law (go_simp; go_at_call 17; (with_reducible refine (k1.out _ (ext_drew wr)).mono ?_); rintro e w9 ⟨A9, c9, rfl, hE9⟩; have E9 := hide ((ext_drew wr).trans hE9); clear hE9)
         all_goals
           obtain ⟨ci2, ce2, hM2⟩ := HC.out w9 E9.out
           have k3 := hide (fun d os => k2.out (grow (redrawn w9 d) os) (hM2.ext (ext_regrown w9 d os)))
           have b0 : ((nr : Int) != (nr : Int)) = false := by simp
           have ci3 := fun d os => cell_regrown ci2 d os
           have ce3 := fun d os => cell_regrown ce2 d os
           go_upto_region 15 with fail
           refine wp_region_quiet_below (by kernel_rfl) (by kernel_rfl) ?_
           repeat (first | go_big_quiet_step (first | with_reducible exact quiet_ret (k3.out _ _)) | quiet_step (first | with_reducible exact quiet_ret (k3.out _ _)))
           refine wpQuiet_nil ?_
           intro _ hw'
           obtain ⟨⟨dq, osq⟩, hw''⟩ := hw'
           subst hw''
           have E10 := hide ((HE.out.trans E9.out).trans (ext_regrown w9 dq osq))
           obtain ⟨w10, hw10⟩ : ∃ w, grow (redrawn w9 dq) osq = w := ⟨_, rfl⟩
           rw [hw10] at E10 ⊢
           clear hw10 ci2 ce2 ci3 ce3 hM2 k3 HC k1 k2
           go_wp2_with fail
           go_roundw
           case rel => exact ⟨k + 1, by omega, by go_num, E10⟩
           case measure => simp [intOf]; omega
       · obtain rfl : k = 3 := by omega
         have d1 : decide (((3 : Nat) : Int) < 3) = false := by decide
         have EE := hide (E8.out.trans HE.out)
         clear HE Hx
         go_wp2_with (go_at_call 13; (with_reducible refine (KK.out _).mono ?_); rintro e w11 ⟨rfl, hE⟩; have E11 := hide (EE.out.trans hE); clear hE)
         go_ret
         exact ⟨rfl, E11.out⟩
end
end Go.Proofs.Ythcnbpeeekkgkaa
