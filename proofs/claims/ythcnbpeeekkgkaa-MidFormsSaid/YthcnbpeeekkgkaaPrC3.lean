/- Part 3 of what these claims stand on: contracts of the program's and the reference's functions, and plain facts. Conditions: each states its own. -/
import Derived.Test.YthcnbpeeekkgkaaPrC2
import Derived.Deep.RegionHeld3
import Derived.Deep.RegionLaw
import Derived.RangeFuncNested
import Derived.RangeFuncBound
import Derived.RangeFuncCalls
import Derived.RangeFuncLeaves
import Derived.Shelf.Abstract
import Derived.Shelf.RegionOpen
import Derived.WalkKit
import Derived.OwnWalkIn
import Derived.TacticsInMore
import Derived.LoopNIn
import Derived.LoopIn
namespace Go.Proofs.Ythcnbpeeekkgkaa
set_option linter.unusedVariables false
set_option linter.unusedSimpArgs false
section
def OkM (eps : Int) : Option Ms → Prop
 | none => True
 | some (n, lo, hi) => 1 ≤ n ∧ n ≤ 1073741824 ∧ I64 lo ∧ I64 hi ∧ lo ≤ hi ∧ hi - lo ≤ 2 * eps ∧ (n = 1 → lo = hi)
def cntS : Option Ms → Nat
 | none => 0
 | some s => s.1
theorem step_okM {eps : Int} (he : Tol eps) {s : Option Ms} {v : Int} (h : OkM eps s) (hv : I64 v) (hc : cntS s < 1073741824) : OkM eps (stepM eps s v).1 ∧ cntS (stepM eps s v).1 ≤ cntS s + 1 := by
 have h0 := he.1
 rcases s with _ | ⟨n, lo, hi⟩
 · exact ⟨⟨Nat.le_refl _, by omega, hv, hv, Int.le_refl _, by omega, fun _ => rfl⟩, Nat.le_refl _⟩
 · obtain ⟨h1, h2, ⟨h3, h3'⟩, ⟨h4, h4'⟩, h5, h6, h7⟩ := h
   obtain ⟨v1, v2⟩ := hv
   simp only [cntS] at hc
   simp only [stepM]
   split
   · exact ⟨⟨by omega, by omega, ⟨by omega, by omega⟩, ⟨by omega, by omega⟩, by omega, by omega, fun e => by omega⟩, Nat.le_refl _⟩
   · exact ⟨⟨Nat.le_refl _, by omega, ⟨v1, v2⟩, ⟨v1, v2⟩, Int.le_refl _, by omega, fun _ => rfl⟩, by simp [cntS]⟩
theorem take_snoc {α : Type} {l : List α} {j : Nat} {v : α} (hv : l[j]? = some v) : l.take (j + 1) = l.take j ++ [v] := by rw [List.take_add_one, hv]; rfl
theorem state_atM {eps : Int} (he : Tol eps) {l : List Int} (ho : ∀ v ∈ l, I64 v) (hn : l.length ≤ 1073741824) : ∀ j, j ≤ l.length → OkM eps (stateM eps none (l.take j)) ∧ cntS (stateM eps none (l.take j)) ≤ j
 | 0, _ => ⟨trivial, Nat.le_refl _⟩
 | j + 1, hj => by
   obtain ⟨h1, h2⟩ := state_atM he ho hn j (by omega)
   have hv : l[j]? = some (l[j]'(by omega)) := List.getElem?_eq_getElem _
   rw [take_snoc hv, stateM_app]
   have := step_okM he h1 (ho _ (List.mem_of_getElem? hv)) (by omega)
   exact ⟨this.1, Nat.le_trans this.2 (by omega)⟩
theorem done_snocM (eps : Int) {l : List Int} {j : Nat} {v : Int} (hv : l[j]? = some v) : doneM eps none (l.take (j + 1)) = doneM eps none (l.take j) ++ (stepM eps (stateM eps none (l.take j)) v).2 ∧ stateM eps none (l.take (j + 1)) = (stepM eps (stateM eps none (l.take j)) v).1 := by
 rw [take_snoc hv, doneM_app, stateM_app]
 exact ⟨by simp [doneM], rfl⟩
end
section
open Go Go.RowKit Go.Sort
def stR (eps : Int) : Option Ms → Array Value
 | none => miR eps 0 0 0
 | some (n, lo, hi) => miR eps n lo hi
def coM (s : Ms) : Int × Int := ((s.1 : Int), (s.2.1 + s.2.2) / 2)
theorem stR_size (eps : Int) (s : Option Ms) : (stR eps s).size = 4 := by rcases s with _ | ⟨n, lo, hi⟩ <;> rfl
theorem ok_st {t c lo hi : Int} (hl : I64 lo) (hh : I64 hi) (h : okB t c lo hi = true) : Tol t ∧ ∃ s, OkM t s ∧ miR t c lo hi = stR t s ∧ (cntS s : Int) = c := by
 obtain ⟨h1, h2⟩ := okB_iff.1 h
 refine ⟨h1, ?_⟩
 rcases h2 with ⟨rfl, rfl, rfl⟩ | ⟨h3, h4, h5, h6, h7⟩
 · exact ⟨none, trivial, rfl, rfl⟩
 · obtain ⟨n, rfl⟩ := Int.eq_ofNat_of_zero_le (by omega : 0 ≤ c)
   exact ⟨some (n, lo, hi), ⟨by omega, by omega, hl, hh, h5, h6, fun e => h7 (by omega)⟩, rfl, rfl⟩
theorem ok_v {eps : Int} (he : Tol eps) {n : Nat} {lo hi : Int} (h : OkM eps (some (n, lo, hi))) : okB eps n lo hi = true := by
 obtain ⟨h1, h2, h3, h4, h5, h6, h7⟩ := h
 exact okB_iff.2 ⟨he, Or.inr ⟨by omega, by omega, h5, h6, fun e => h7 (by omega)⟩⟩
theorem ok_v0 {eps : Int} (he : Tol eps) : okB eps 0 0 0 = true := okB_iff.2 ⟨he, Or.inl ⟨rfl, rfl, rfl⟩⟩
theorem tol64 {eps : Int} (he : Tol eps) : I64 eps := ⟨by have := he.1; omega, by have := he.2; omega⟩
theorem p_validS (eps : Int) (s : Option Ms) (he : Tol eps) (hs : OkM eps s) (W : World) : Calls Try.prog 32 #[.agg (stR eps s)] W (Ret (.bool true) W) := by
 rcases s with _ | ⟨n, lo, hi⟩
 · exact p_valid eps 0 0 0 W (tol64 he) ⟨by omega, by omega⟩ ⟨by omega, by omega⟩ true (ok_v0 he)
 · exact p_valid eps n lo hi W (tol64 he) hs.2.2.1 hs.2.2.2.1 true (ok_v he hs)
theorem r_validS (eps : Int) (s : Option Ms) (he : Tol eps) (hs : OkM eps s) (W : World) : Calls Try.prog 33 #[.agg (stR eps s)] W (Ret (.bool true) W) := by
 rcases s with _ | ⟨n, lo, hi⟩
 · exact r_valid eps 0 0 0 W (tol64 he) ⟨by omega, by omega⟩ ⟨by omega, by omega⟩ true (ok_v0 he)
 · exact r_valid eps n lo hi W (tol64 he) hs.2.2.1 hs.2.2.2.1 true (ok_v he hs)
theorem fit_eq {lo hi v eps : Int} (h : lo ≤ hi) : fitB (min lo v) (max hi v) eps = decide (max hi v - min lo v ≤ 2 * eps) := by
 unfold fitB
 have : (((min lo v - max hi v).natAbs : Nat) : Int) = max hi v - min lo v := by omega
 rw [this]
theorem end_eq (s : Option Ms) (eps : Int) (hs : OkM eps s) : (endM s).map coM = match s with | none => [] | some (n, lo, hi) => endL n lo hi := by
 rcases s with _ | ⟨n, lo, hi⟩
 · rfl
 · have : ¬ ((n : Int) = 0) := by have := hs.1; omega
   simp only [endM, List.map_cons, List.map_nil, endL, if_neg this, coM]
set_option maxHeartbeats 1600000 in
theorem p_stepS (eps : Int) (s : Option Ms) (v : Int) (he : Tol eps) (hs : OkM eps s) (hc : cntS s < 1073741824) (hv : I64 v) (W : World) :
   Calls Try.prog 40 #[.agg sgF, .agg (stR eps s), .int .i64 v] W (CoPair (stR eps (stepM eps s v).1) ((stepM eps s v).2.map coM) W) := by
 rcases s with _ | ⟨n, lo, hi⟩
 · exact p_stepN eps 0 0 0 v W [] (hide fun w => p_ext0 eps 0 0 0 v w rfl) (hide fun w => p_begin _ _ _ _ _ w) (hide fun w => by
     have := p_endM eps 0 0 0 w ⟨by omega, by omega⟩ ⟨by omega, by omega⟩ ⟨by omega, by omega⟩
     rwa [show endL 0 0 0 = [] from rfl] at this)
 · obtain ⟨h1, h2, h3, h4, h5, h6, h7⟩ := hs
   simp only [cntS] at hc
   have d0 : ((n : Int) == 0) = false := by rw [beq_eq_false_iff_ne]; omega
   have im : I64 (min lo v) := by unfold I64 at *; omega
   have ix : I64 (max hi v) := by unfold I64 at *; omega
   have hf := fit_eq (v := v) (eps := eps) h5
   by_cases hq : max hi v - min lo v ≤ 2 * eps
   · rw [decide_eq_true hq] at hf
     simp only [stepM, if_pos hq]
     exact p_stepY eps n lo hi v W (min lo v) (max hi v) (hide fun w => p_extY eps n lo hi v w d0 (by rw [IntKind.wrap_i64]; omega) (hide fun w => p_has _ _ _ w im ix he true hf))
   · rw [decide_eq_false hq] at hf
     simp only [stepM, if_neg hq]
     have hE : endL (n : Int) lo hi = [coM (n, lo, hi)] := by unfold endL coM; rw [if_neg (by omega)]
     exact p_stepN eps n lo hi v W _ (hide fun w => p_extN eps n lo hi v w d0 (hide fun w => p_has _ _ _ w im ix he false hf)) (hide fun w => p_begin _ _ _ _ _ w) (hide fun w => by
       have := p_endM eps n lo hi w h3 h4 ⟨by omega, by omega⟩
       rwa [hE] at this)
theorem p_endS (eps : Int) (s : Option Ms) (hs : OkM eps s) (W : World) : Calls Try.prog 41 #[.agg (stR eps s)] W (CoGet ((endM s).map coM) W) := by
 rw [end_eq s eps hs]
 rcases s with _ | ⟨n, lo, hi⟩
 · exact p_endM eps 0 0 0 W ⟨by omega, by omega⟩ ⟨by omega, by omega⟩ ⟨by omega, by omega⟩
 · exact p_endM eps n lo hi W hs.2.2.1 hs.2.2.2.1 (by have := hs.2.1; exact ⟨by omega, by omega⟩)
theorem r_finS (eps : Int) (s : Option Ms) (he : Tol eps) (hs : OkM eps s) (W : World) : Calls Try.prog 31 #[.agg (stR eps s)] W (CoFin ((endM s).map coM) 0 W) := by
 have kv := hide fun w => r_validS eps s he hs w
 rw [end_eq s eps hs]
 rcases s with _ | ⟨n, lo, hi⟩
 · exact r_finY eps 0 0 0 W ⟨by omega, by omega⟩ ⟨by omega, by omega⟩ ⟨by omega, by omega⟩ (by omega) kv
 · exact r_finY eps n lo hi W hs.2.2.1 hs.2.2.2.1 (by have := hs.2.1; exact ⟨by omega, by omega⟩) hs.2.2.2.2.1 kv
def CoTrip (R : Array Value) (l : List (Int × Int)) (er : Nat) (W : World) (e : Ending) (w' : World) : Prop := ∃ A k, e = .returned (.tuple #[.agg R, .slice A l.length k, .int .i64 (er : Int)]) ∧ OwnC W.heap.size w' (.slice A l.length k) l ∧ Ext W w'
theorem trip_nil {R : Array Value} {er : Nat} {W w' : World} {e : Ending} (h : Ret (.tuple #[.agg R, .slice none 0 0, .int .i64 (er : Int)]) W e w') : CoTrip R [] er W e w' := ⟨none, 0, h.1, OwnC.nil_ _ _, h.2⟩
def stepF (eps : Int) (s : Option Ms) (v : Int) : Array Value × List (Int × Int) × Nat := if cntS s = 1073741824 then (z4m, [], 3) else (stR eps (stepM eps s v).1, (stepM eps s v).2.map coM, 0)
set_option maxHeartbeats 1600000 in
theorem r_stepF (eps : Int) (s : Option Ms) (v : Int) (he : Tol eps) (hs : OkM eps s) (hv : I64 v) (W : World) : Calls Try.prog 25 #[.agg (stR eps s), .int .i64 v] W (CoTrip (stepF eps s v).1 (stepF eps s v).2.1 (stepF eps s v).2.2 W) := by
 have kv := hide fun w => r_validS eps s he hs w
 have kn := hide fun w => r_finS eps s he hs w
 unfold stepF
 rcases s with _ | ⟨n, lo, hi⟩
 · exact r_step0 eps 0 0 0 v W kv (by decide) (by decide) (by decide) [] kn
 · obtain ⟨h1, h2, h3, h4, h5, h6, h7⟩ := hs
   by_cases hc : n = 1073741824
   · rw [if_pos (show cntS (some (n, lo, hi)) = 1073741824 from hc)]
     exact (r_stepL eps n lo hi v W kv (by rw [beq_iff_eq]; omega)).mono fun _ _ h => trip_nil h
   · rw [if_neg (show ¬ cntS (some (n, lo, hi)) = 1073741824 from hc)]
     have d1 : ((n : Int) == 1073741824) = false := by rw [beq_eq_false_iff_ne]; omega
     have d2 : decide (0 < (n : Int)) = true := decide_eq_true (by omega)
     have wr : IntKind.i64.wrap ((n : Int) + 1) = (n : Int) + 1 := by rw [IntKind.wrap_i64]; omega
     have im : I64 (min lo v) := by unfold I64 at *; omega
     have ix : I64 (max hi v) := by unfold I64 at *; omega
     have hf := fit_eq (v := v) (eps := eps) h5
     by_cases hq : max hi v - min lo v ≤ 2 * eps
     · rw [decide_eq_true hq] at hf
       simp only [stepM, if_pos hq]
       exact (r_stepY eps n lo hi v W kv d1 wr d2 (hide fun w => r_fits _ _ _ _ w im ix he true hf)).mono fun _ _ h => trip_nil h
     · rw [decide_eq_false hq] at hf
       simp only [stepM, if_neg hq]
       exact r_stepN eps n lo hi v W kv d1 wr d2 (hide fun w => r_fits _ _ _ _ w im ix he false hf) [coM (n, lo, hi)] kn
end
section
open Go Go.RowKit Go.Sort
theorem p_finS (eps : Int) (s : Option Ms) (he : Tol eps) (hs : OkM eps s) (W : World) : Calls Try.prog 30 #[.agg (stR eps s)] W (CoFin ((endM s).map coM) 0 W) := by
 have kv := hide fun w => p_validS eps s he hs w
 have ke := hide fun w => p_endS eps s hs w
 have sX := stR_size eps s
 obtain ⟨X, hX⟩ : ∃ X, stR eps s = X := ⟨_, rfl⟩
 obtain ⟨l, hl⟩ : ∃ l, (endM s).map coM = l := ⟨_, rfl⟩
 rw [hX] at kv ke sX ⊢
 rw [hl] at ke ⊢
 clear hX hl hs he
 have P1 := Blk.new W 23 X
 have E1 := hide (ext_alloc W (.cells X 23))
 have ld := ld_all P1 uMid rfl iMid sX
 go_enter Try.func30, Try.ntmps30
 go_wp2_with (first
   | (refine wl_load (by kernel_rfl) rfl rfl ld ?_)
   | (go_at_call 32; (with_reducible refine (kv.out _).mono ?_); rintro e w1 ⟨rfl, hE⟩; have E2 := hide (E1.out.trans hE); have ld := ld_all (P1.ext hE) uMid rfl iMid sX; clear hE)
   | (go_at_call 41; (with_reducible refine (ke.out _).mono ?_); rintro e w2 ⟨A2, k2, rfl, hO, hE⟩; have O2 := hide (hO.less (B' := W.heap.size) E2.out.size); have E3 := hide (E2.out.trans hE); clear hE hO))
 go_ret2
 exact ⟨A2, k2, rfl, O2.out, E3.out⟩
theorem p_finX (t c lo hi : Int) (W : World) (kv : Hid (∀ w, Calls Try.prog 32 #[.agg (miR t c lo hi)] w (Ret (.bool false) w))) : Calls Try.prog 30 #[.agg (miR t c lo hi)] W (CoFin [] 1 W) := by
 unfold miR at *
 go_enter Try.func30, Try.ntmps30
 go_wp2_with (go_at_call 32; (with_reducible refine (kv.out _).mono ?_); rintro e w1 ⟨rfl, hE⟩; have E1 := hide hE; clear hE)
 go_ret2
 exact ⟨none, 0, rfl, OwnC.nil_ _ _, (ext_alloc _ _).trans E1.out⟩
theorem p_stepX (t c lo hi v : Int) (W : World) (kv : Hid (∀ w, Calls Try.prog 32 #[.agg (miR t c lo hi)] w (Ret (.bool false) w))) : Calls Try.prog 29 #[.agg (miR t c lo hi), .int .i64 v] W (CoTrip z4m [] 1 W) := by
 have P4 := Blk.new (W.alloc (.cells (miR t c lo hi) 23)) 23 z4m
 rw [alloc_size] at P4
 have E1 := hide ((ext_alloc W (.cells (miR t c lo hi) 23)).trans (ext_alloc _ (.cells z4m 23)))
 have P4 := hide P4
 unfold miR z4m at *
 go_enter Try.func29, Try.ntmps29
 go_wp2_with (first
   | (go_at_call 32; (with_reducible refine (kv.out _).mono ?_); rintro e w1 ⟨rfl, hE⟩; have E2 := hide (E1.out.trans hE); have Q4 := hide (P4.out.ext hE); have st := st_all (Y := #[.int .i64 0, .int .i64 0, .int .i64 0, .int .i64 0]) (P4.out.ext hE) iMid rfl rfl z4m_one; clear hE)
   | (refine wl_store (by kernel_rfl) rfl rfl rfl st ?_))
 exact bodyPost_ret (res3 (p := 4) (u := 5) (u2 := 6) (ty := 23) rfl _ _ _ 23 #[.int .i64 0, .int .i64 0, .int .i64 0, .int .i64 0] _ rfl (Q4.out.setRow _) uMid rfl iMid) rfl ⟨none, 0, rfl, OwnC.nil_ _ _, ext_row E2.out (by omega) _⟩
theorem p_stepL (X : Array Value) (v : Int) (sX : X.size = 4) (x1 : X[1]? = some (.int .i64 1073741824)) (kv : Hid (∀ w, Calls Try.prog 32 #[.agg X] w (Ret (.bool true) w))) (W : World) : Calls Try.prog 29 #[.agg X, .int .i64 v] W (CoTrip z4m [] 3 W) := by
 have P4 := Blk.new (W.alloc (.cells X 23)) 23 z4m
 rw [alloc_size] at P4
 have P2 := (Blk.new W 23 X).alloc (.cells z4m 23)
 have E1 := hide ((ext_alloc W (.cells X 23)).trans (ext_alloc _ (.cells z4m 23)))
 have P4 := hide P4
 have P2 := hide P2
 have ld := ld_all P2.out uMid rfl iMid sX
 unfold z4m at *
 go_enter Try.func29, Try.ntmps29
 go_wp2_with (first
   | (refine wl_load (by kernel_rfl) rfl rfl ld ?_)
   | (go_at_call 32; (with_reducible refine (kv.out _).mono ?_); rintro e w1 ⟨rfl, hE⟩; have E2 := hide (E1.out.trans hE); have c1 := ((P2.out.ext hE).cell 1).trans x1; have Q4 := hide (P4.out.ext hE); have st := st_all (Y := #[.int .i64 0, .int .i64 0, .int .i64 0, .int .i64 0]) (P4.out.ext hE) iMid rfl rfl z4m_one; clear hE ld)
   | (refine wl_store (by kernel_rfl) rfl rfl rfl st ?_))
 exact bodyPost_ret (res3 (p := 4) (u := 5) (u2 := 6) (ty := 23) rfl _ _ _ 23 #[.int .i64 0, .int .i64 0, .int .i64 0, .int .i64 0] _ rfl (Q4.out.setRow _) uMid rfl iMid) rfl ⟨none, 0, rfl, OwnC.nil_ _ _, ext_row E2.out (by omega) _⟩
end
section
open Go Go.RowKit Go.Sort
attribute [local go_sem] qUpon eUpon putE slE
def CE (W0 : World) (Y : Array Value) (l : List (Int × Int)) (s : Nat) (R : Nat → Value) (w : World) : Prop := Ext W0 w ∧ (0 < s → ∃ A k, R 0 = .tuple #[.agg Y, .slice A l.length k] ∧ OwnC W0.heap.size w (.slice A l.length k) l)
theorem ce_below {W0 : World} {Y : Array Value} {l : List (Int × Int)} : ∀ s R w w', CE W0 Y l s R w → Below w.heap.size w w' → CE W0 Y l s R w' := fun s R w w' h k =>
 ⟨h.1.trans k, fun hs => by
   obtain ⟨A, c, h1, h2⟩ := h.2 hs
   exact ⟨A, c, h1, h2.ext k⟩⟩
theorem ce_new {W0 w w1 : World} {Y : Array Value} {l : List (Int × Int)} {s : Nat} {R : Nat → Value} {g : Nat} {f : Obj} {cs : Array Value} {T : TypeId} (h : CE W0 Y l s R w) (hF : Filled w w1 g f) (hg : W0.heap.size ≤ g) (hz : w.heap[g]? = some (.cells cs T (0, 0))) (hT : T ≠ 46) : CE W0 Y l s R w1 :=
 ⟨ext_filled h.1 hF hg, fun hs => by
   obtain ⟨A, c, h1, h2, h3⟩ := h.2 hs
   refine ⟨A, c, h1, ?_, h3⟩
   obtain ⟨h4, h5 | ⟨g', cap, cur, hv, hg', hh, r⟩⟩ := h2
   · exact ⟨h4, Or.inl h5⟩
   · refine ⟨h4, Or.inr ⟨g', cap, cur, hv, hg', ?_, r⟩⟩
     rw [hF.2.1 g' (fun e => by subst e; rw [hz] at hh; injection hh with hh; injection hh with _ hh _; exact hT hh)]
     exact hh⟩
theorem ce_ev {W0 w w' : World} {Y : Array Value} {l : List (Int × Int)} {R : Nat → Value} {A : Option Addr} {k : Nat} (h : CE W0 Y l 0 R w) (hO : OwnC w.heap.size w' (.slice A l.length k) l) (hE : Ext w w') : CE W0 Y l 1 (updR R 0 (.tuple #[.agg Y, .slice A l.length k])) w' ∧ GrowE (fun _ => False) w w' :=
 ⟨⟨h.1.trans hE, fun _ => ⟨A, k, by unfold updR; rw [if_pos rfl], hO.less h.1.size⟩⟩, Below.growE hE⟩
theorem OwnC.updT {B b : Nat} {w w' : World} {v : Value} {l : List (Int × Int)} {cs : Array Value} {T : TypeId} (h : OwnC B w v l) (u : Upd b w w') (hb : Blk w b T cs) (hT : T ≠ 46) : OwnC B w' v l := by
 obtain ⟨⟨h1, h2⟩, h3⟩ := h
 refine ⟨⟨h1, ?_⟩, h3⟩
 rcases h2 with h2 | ⟨g, cap, cur, hv, hg, hh, r⟩
 · exact Or.inl h2
 · refine Or.inr ⟨g, cap, cur, hv, hg, ?_, r⟩
   rw [u.2.2.2.2 g (Array.getElem?_eq_some_iff.1 hh).1 (fun e => by subst e; unfold Blk at hb; rw [hb] at hh; injection hh with hh; injection hh with _ hh _; exact hT hh)]
   exact hh
def sl1 : Value → Value
 | .tuple ⟨[_, b]⟩ => b
 | v => v
theorem sl1_eq (x y : Value) : sl1 (.tuple #[x, y]) = y := rfl
theorem q_extr {a : Act} {o : Oper} {w : World} {x : Operand} {i : Nat} {r v : Value} (ho : o.op = .extract x i) (hx : a.eval x = r) (h : ∃ y z, r = .tuple #[y, z] ∧ ((i = 0 ∧ v = y) ∨ (i = 1 ∧ v = z))) : qUpon Try.prog w v ((execOp a.eval o).run Try.prog w) := by
 obtain ⟨y, z, rfl, h⟩ := h
 unfold execOp
 simp only [ho, hx]
 rcases h with ⟨rfl, rfl⟩ | ⟨rfl, rfl⟩ <;> go_simp
theorem ce_x0 {W0 w : World} {Y : Array Value} {l : List (Int × Int)} {s : Nat} {R : Nat → Value} (h : CE W0 Y l s R w) (hs : 1 ≤ s) : ∃ y z, R 0 = .tuple #[y, z] ∧ ((0 = 0 ∧ Value.agg Y = y) ∨ (0 = 1 ∧ Value.agg Y = z)) := by
 obtain ⟨A, k, e, _⟩ := h.2 hs
 exact ⟨_, _, e, Or.inl ⟨rfl, rfl⟩⟩
theorem ce_x1 {W0 w : World} {Y : Array Value} {l : List (Int × Int)} {s : Nat} {R : Nat → Value} (h : CE W0 Y l s R w) (hs : 1 ≤ s) : ∃ y z, R 0 = .tuple #[y, z] ∧ ((1 = 0 ∧ sl1 (R 0) = y) ∨ (1 = 1 ∧ sl1 (R 0) = z)) := by
 obtain ⟨A, k, e, _⟩ := h.2 hs
 exact ⟨_, _, e, Or.inr ⟨rfl, by rw [e]; rfl⟩⟩
set_option maxHeartbeats 3200000 in
set_option maxRecDepth 100000 in
theorem p_stepK (t c lo hi c' a b v : Int) (l : List (Int × Int)) (d0 : (c == 1073741824) = false) (kv : Hid (∀ w, Calls Try.prog 32 #[.agg (miR t c lo hi)] w (Ret (.bool true) w))) (ks : Hid (∀ w, Calls Try.prog 40 #[.agg sgF, .agg (miR t c lo hi), .int .i64 v] w (CoPair (miR t c' a b) l w))) (W : World) : Calls Try.prog 29 #[.agg (miR t c lo hi), .int .i64 v] W (CoTrip (miR t c' a b) l 0 W) := by
 have km := hide fun w => p_middles w
 have P2 := (Blk.new W 23 (miR t c lo hi)).alloc (.cells z4m 23)
 have P4 := Blk.new (W.alloc (.cells (miR t c lo hi) 23)) 23 z4m
 rw [alloc_size] at P4
 have EE := hide ((ext_alloc W (.cells (miR t c lo hi) 23)).trans (ext_alloc _ (.cells z4m 23)))
 obtain ⟨W1, hW1⟩ : ∃ W1, ((W.alloc (.cells (miR t c lo hi) 23)).alloc (.cells z4m 23)) = W1 := ⟨_, rfl⟩
 obtain ⟨g0, hg⟩ : ∃ g, W.heap.size = g := ⟨_, rfl⟩
 rw [hW1] at P2 P4 EE
 rw [hg] at P2 P4
 have P2_lo : W.heap.size ≤ g0 := by omega
 have P4_lo : W.heap.size ≤ g0 + 1 := by omega
 have HW := hide hW1
 have Hg := hide hg
 clear hW1 hg
 go_enter Try.func29, Try.ntmps29
 go_upto_region 1 with fail
 unfold z4m at HW
 rw [HW.out, Hg.out]
 clear HW Hg
 refine wp_region_reads ?_
 repeat (first | go_big_quiet_step (first | with_reducible exact quiet_ret (kv.out _)) | (refine wq_load (by kernel_rfl) rfl rfl (fun w hw => by obtain ⟨⟨d, os⟩, rfl⟩ := hw; exact ld_all ((P2).ext (ext_regrown W1 d os)) uMid rfl iMid rfl) ?_) | quiet_step (first | with_reducible exact quiet_ret (kv.out _)))
 refine wpQuiet_nil ?_
 intro _ hw'
 obtain ⟨⟨dq, osq⟩, hw''⟩ := hw'
 subst hw''
 replace P2 := (P2).ext (ext_regrown W1 dq osq)
 replace P4 := (P4).ext (ext_regrown W1 dq osq)
 replace EE := hide (EE.out.trans (ext_regrown W1 dq osq))
 obtain ⟨w2, hzq1⟩ : ∃ w, grow (redrawn W1 dq) osq = w := ⟨_, rfl⟩
 rw [hzq1] at EE P2 P4 ⊢
 clear hzq1
 go_upto_region 3 with fail
 have cq3_0 := fun d os => (((P2).ext (ext_regrown w2 d os)).cell 1).trans (show (miR t c lo hi)[1]? = some (.int .i64 c) from rfl)
 refine wp_region_reads ?_
 repeat (first | go_big_quiet_step (fail) | quiet_step (fail))
 refine wpQuiet_nil ?_
 intro _ hw'
 obtain ⟨⟨dq, osq⟩, hw''⟩ := hw'
 subst hw''
 replace P2 := (P2).ext (ext_regrown w2 dq osq)
 replace P4 := (P4).ext (ext_regrown w2 dq osq)
 replace EE := hide (EE.out.trans (ext_regrown w2 dq osq))
 obtain ⟨w4, hzq3⟩ : ∃ w, grow (redrawn w2 dq) osq = w := ⟨_, rfl⟩
 rw [hzq3] at EE P2 P4 ⊢
 clear hzq3 cq3_0
 go_upto_region 5 with fail
 have P2_lt := P2.lt
 have P4_lt := P4.lt
 refine wp_ev [.q, .q, .q, .ev 0, .q, .q, .q, .al, .st 7, .q] [0, 0, 0, 0, 1, 1, 1, 0, 0, 1] (fun R => [.agg sgF, .agg (miR t c lo hi), .int .i64 v, undef, (R 0), .agg (miR t c' a b), (sl1 (R 0)), undef, undef, (sl1 (R 0))]) (fun _ => (.cells z4m 23 (0, 0))) (fun R _ => (.cells (miR t c' a b) 23 (0, 0))) (fun _ => 0) (CE W (miR t c' a b) l) (fun _ => False) (by kernel_rfl) (by kernel_rfl) (by kernel_rfl) (by kernel_rfl) rfl (fun _ => rfl) (fun _ h => h.elim) (fun _ _ h => h) (by simp) (by simp) (fun R R' => ⟨fun _ => rfl, fun _ => rfl, fun _ => rfl, fun _ => rfl, fun h => by simp only [h 0 (by decide)], fun _ => rfl, fun h => by simp only [h 0 (by decide)], fun _ => rfl, fun _ => rfl, fun h => by simp only [h 0 (by decide)], trivial⟩) (fun _ _ _ _ => rfl) ce_below ⟨EE.out.trans (ext_drew _), fun h => absurd h (by decide)⟩ ?ops14 ?end14
 case ops14 =>
   refine ⟨?_, ?_, ?_, ?_, ?_, ?_, ?_, ?_, ?_, ?_, trivial⟩
   · refine er_q ?vn5 ?hn5 ?kn5 ?gn5 ?_
     case hn5 => exact rfl
     case vn5 => exact (fun R => .agg sgF)
     case kn5 => exact (fun R => rfl)
     case gn5 => exact gd_none rfl
     intro R s w' hT hs hw ha
     go_simp
     exact km.out w'
   · refine er_q ?vn6 ?hn6 ?kn6 ?gn6 ?_
     case hn6 => exact rfl
     case vn6 => exact (fun R => .agg (miR t c lo hi))
     case kn6 => exact (fun R => rfl)
     case gn6 => exact gd_none rfl
     intro R s w' hT hs hw ha
     have L := ld_all (P2.sameE hw (fun h => h) (by simp)) uMid rfl iMid rfl
     generalize hA : putE _ _ _ _ _ _ _ = AA
     refine q_load rfl ?_ L
     subst hA
     kernel_rfl
   · refine er_q ?vn7 ?hn7 ?kn7 ?gn7 ?_
     case hn7 => exact rfl
     case vn7 => exact (fun R => .int .i64 v)
     case kn7 => exact (fun R => rfl)
     case gn7 => exact gd_none rfl
     intro R s w' hT hs hw ha
     go_simp
   · refine er_ev (m := 0) ?hn8 ?gn8 ?_
     case hn8 => exact rfl
     case gn8 => exact gd_none rfl
     intro R w' hT hw
     go_simp
     refine (ks.out _).mono ?_
     rintro e w2 ⟨A1, k1, rfl, hO, hE⟩
     exact ⟨_, rfl, ce_ev hT hO hE⟩
   · refine er_q ?vn9 ?hn9 ?kn9 ?gn9 ?_
     case hn9 => exact rfl
     case vn9 => exact (fun R => (R 0))
     case kn9 => exact (fun R => rfl)
     case gn9 => exact gd_none rfl
     intro R s w' hT hs hw ha
     go_simp
   · refine er_q ?vn10 ?hn10 ?kn10 ?gn10 ?_
     case hn10 => exact rfl
     case vn10 => exact (fun R => .agg (miR t c' a b))
     case kn10 => exact (fun R => rfl)
     case gn10 => exact gd_none rfl
     intro R s w' hT hs hw ha
     have hs' : 1 ≤ s := hs
     generalize hA : putE _ _ _ _ _ _ _ = AA
     refine q_extr (x := .tmp 19) (r := R 0) rfl ?_ (ce_x0 hT hs')
     subst hA
     kernel_rfl
   · refine er_q ?vn11 ?hn11 ?kn11 ?gn11 ?_
     case hn11 => exact rfl
     case vn11 => exact (fun R => (sl1 (R 0)))
     case kn11 => exact (fun R => rfl)
     case gn11 => exact gd_none rfl
     intro R s w' hT hs hw ha
     have hs' : 1 ≤ s := hs
     generalize hA : putE _ _ _ _ _ _ _ = AA
     refine q_extr (x := .tmp 19) (r := R 0) rfl ?_ (ce_x1 hT hs')
     subst hA
     kernel_rfl
   · refine er_al ?zn12 ?hn12 ?kn12 ?gn12 ?_
     case zn12 => exact (.cells z4m 23 (0, 0))
     case hn12 => exact rfl
     case kn12 => exact rfl
     case gn12 => exact gd_none rfl
     intro ρ w'
     go_simp
     exact ⟨rfl, rfl⟩
   · refine er_st (j := 7) (Ty := ?Tn13) (p := ?pn13) (x := ?xn13) ?fn13 ?zn13 ?vn13 ?hn13 ?on13 ?kn13 ?ln13 ?gn13 ?en13 ?_
     case hn13 => exact rfl
     case on13 => exact rfl
     case fn13 => exact (fun R => (.cells (miR t c' a b) 23 (0, 0)))
     case zn13 => exact (.cells z4m 23 (0, 0))
     case vn13 => exact (fun R => .agg (miR t c' a b))
     case kn13 => exact (fun R => rfl)
     case ln13 => exact rfl
     case gn13 => exact gd_none rfl
     case en13 =>
       intro R
       kernel_rfl
     intro R s ρ w g hT hs hp hx hg hz
     exact ⟨store_row rfl hp hx hz iMid (rfl) (miR_one _ _ _ _), fun w1 hF => ce_new hT hF (Nat.le_trans EE.out.size hg) hz (by decide)⟩
   · refine er_q ?vn14 ?hn14 ?kn14 ?gn14 ?_
     case hn14 => exact rfl
     case vn14 => exact (fun R => (sl1 (R 0)))
     case kn14 => exact (fun R => rfl)
     case gn14 => exact gd_none rfl
     intro R s w' hT hs hw ha
     go_simp
 case end14 =>
  intro sI R G w15 hI
  have hS := hI.same
  have hTT := hI.holds
  have hz0 := EE.out.size
  have hs0 : 0 < sI := (hI.stage 3 (show 3 < 10 by decide) 0 rfl).1 (List.mem_range.2 (show 3 < 10 by decide))
  obtain ⟨A1, k1, e1, O1⟩ := hTT.2 hs0
  replace P2 := P2.sameE hS (fun h => h) (by simp)
  replace P4 := P4.sameE hS (fun h => h) (by simp)
  have P7 : Blk w15 (G 7) 23 (miR t c' a b) := (hI.fulls 8 (List.mem_range.2 (show 8 < 10 by decide)) 7 rfl).2.2
  have hmP7 := (hI.made 7 (List.mem_range.2 (show 7 < 10 by decide)) rfl).1
  have P7_lo : W.heap.size ≤ G 7 := Nat.le_trans hz0 hmP7
  have ngP2_7 : g0 ≠ G 7 := by omega
  have ngP4_7 : g0 + 1 ≠ G 7 := by omega
  replace EE := hide hTT.1
  clear hS hz0 hTT hI P2_lt P4_lt
  generalize hF : putE _ _ _ _ _ _ _ = FF
  have hF2 : FF = { tmps := #[.agg (miR t c lo hi), .int .i64 v, .pointer (some ⟨g0, 0, none⟩), undef, .pointer (some ⟨g0 + 1, 0, none⟩), .slice none 0 0, .int .i64 0, .pointer (some ⟨G 7, 0, none⟩), (sl1 (R 0)), .bool false, .agg (miR t c lo hi), .bool true, .bool false, undef, .bool false, .pointer (some ⟨g0, 1, none⟩), .int .i64 c, .bool false, undef, (R 0), .agg sgF, .agg (miR t c lo hi), .int .i64 v, (R 0), .agg (miR t c' a b), (sl1 (R 0)), undef, undef], defers := [] } := by subst hF; kernel_rfl
  clear hF
  subst hF2
  (try simp only [e1])
  generalize G 7 = g7 at *
  (try simp only [sl1_eq])
  have O1 := hide O1
  go_upto_region 6 with fail
  have T4 := P4
  have E9 := EE
  clear EE
  have EE : Hid (Upd (g0 + 1) w15 w15) := Upd.refl _ _
  have P2_lt := P2.lt
  have P4_lt := P4.lt
  have P7_lt := P7.lt
  refine wp_evs [.q, .q, .so 0, .q, .q] [0, 0, 0, 0, 0] (fun R => [.agg (miR t c' a b), .slice A1 l.length k1, undef, .slice A1 l.length k1, .int .i64 0]) (fun _ => (.cells #[] 0 (0, 0))) (fun R _ => (.cells (miR t c' a b) 23 (0, 0))) (fun _ => g0 + 1) (UE (g0 + 1) w15) (fun _ => False) (by kernel_rfl) (by kernel_rfl) (by kernel_rfl) rfl (fun _ => rfl) (fun _ h => h.elim) (fun _ _ h => h) (by intro c hc; simp at hc; (try subst hc); (try simp only); omega) (by intro c c' h1 h2 _; simp at h1 h2; omega) (fun R R' => ⟨fun _ => rfl, fun _ => rfl, fun _ => rfl, fun _ => rfl, fun _ => rfl, trivial⟩) (fun _ _ _ _ => rfl) ue_below EE.out ?ops20 ?end20
  case ops20 =>
    refine ⟨?_, ?_, ?_, ?_, ?_, trivial⟩
    · refine er_q ?vn16 ?hn16 ?kn16 ?gn16 ?_
      case hn16 => exact rfl
      case vn16 => exact (fun R => .agg (miR t c' a b))
      case kn16 => exact (fun R => rfl)
      case gn16 => exact gd_none rfl
      intro R s w' hT hs hw ha
      have L := ld_all (P7.sameE hw (fun h => h) (by intro c hc; simp at hc; (try subst hc); (try simp only); omega)) uMid rfl iMid rfl
      generalize hA : putE _ _ _ _ _ _ _ = AA
      refine q_load rfl ?_ L
      subst hA
      kernel_rfl
    · refine er_q ?vn17 ?hn17 ?kn17 ?gn17 ?_
      case hn17 => exact rfl
      case vn17 => exact (fun R => .slice A1 l.length k1)
      case kn17 => exact (fun R => rfl)
      case gn17 => exact gd_none rfl
      intro R s w' hT hs hw ha
      go_simp
    · refine er_so (c := 0) (Ty := ?Tn18) (p := ?pn18) (x := ?xn18) (g0 + 1) ?fn18 ?un18 ?vn18 ?hn18 ?on18 ?kn18 ?ln18 ?gn18 ?dn18 ?en18 ?_
      case hn18 => exact rfl
      case on18 => exact rfl
      case fn18 => exact (fun R => (.cells (miR t c' a b) 23 (0, 0)))
      case un18 => exact (fun R => .pointer (some ⟨g0 + 1, 0, none⟩))
      case vn18 => exact (fun R => .agg (miR t c' a b))
      case kn18 => exact (fun R => rfl)
      case ln18 => exact rfl
      case gn18 => exact gd_none rfl
      case dn18 =>
        intro R
        kernel_rfl
      case en18 =>
        intro R
        kernel_rfl
      intro R s ρ w hT hs hp hx hz
      refine ⟨store_rowN (g := (g0 + 1)) rfl hp hx (hz.trans P4) iMid (rfl) (rfl) (miR_one _ _ _ _), fun w1 hF => ue_self hT hF⟩
    · refine er_q ?vn19 ?hn19 ?kn19 ?gn19 ?_
      case hn19 => exact rfl
      case vn19 => exact (fun R => .slice A1 l.length k1)
      case kn19 => exact (fun R => rfl)
      case gn19 => exact gd_none rfl
      intro R s w' hT hs hw ha
      go_simp
    · refine er_q ?vn20 ?hn20 ?kn20 ?gn20 ?_
      case hn20 => exact rfl
      case vn20 => exact (fun R => .int .i64 0)
      case kn20 => exact (fun R => rfl)
      case gn20 => exact gd_none rfl
      intro R s w' hT hs hw ha
      go_simp
  case end20 =>
   intro sI R G w21 hI
   have hS := hI.same
   have hTT := hI.holds
   have hz0 := EE.out.2.2.2.1
   replace P2 := P2.sameE hS (fun h => h) (by intro c hc; simp at hc; (try subst hc); (try simp only); omega)
   replace P7 := P7.sameE hS (fun h => h) (by intro c hc; simp at hc; (try subst hc); (try simp only); omega)
   replace P4 : Blk w21 (g0 + 1) 23 (miR t c' a b) := hI.olds' 2 (List.mem_range.2 (show 2 < 5 by decide)) 0 rfl
   replace EE := hide (show Upd (g0 + 1) _ _ from hTT)
   clear hS hz0 hTT hI P2_lt P4_lt P7_lt
   generalize hF : putE _ _ _ _ _ _ _ = FF
   have hF2 : FF = { tmps := #[.agg (miR t c lo hi), .int .i64 v, .pointer (some ⟨g0, 0, none⟩), undef, .pointer (some ⟨g0 + 1, 0, none⟩), .slice A1 l.length k1, .int .i64 0, .pointer (some ⟨g7, 0, none⟩), .slice A1 l.length k1, .bool false, .agg (miR t c lo hi), .bool true, .bool false, undef, .bool false, .pointer (some ⟨g0, 1, none⟩), .int .i64 c, .bool false, undef, .tuple #[.agg (miR t c' a b), .slice A1 l.length k1], .agg sgF, .agg (miR t c lo hi), .int .i64 v, .tuple #[.agg (miR t c' a b), .slice A1 l.length k1], .agg (miR t c' a b), .slice A1 l.length k1, .agg (miR t c' a b), .slice A1 l.length k1], defers := [] } := by subst hF; kernel_rfl
   clear hF
   subst hF2
   go_wp2_with fail
   exact bodyPost_ret (res3 (p := 4) (u := 5) (u2 := 6) (ty := 23) rfl _ _ _ 23 (miR t c' a b) _ rfl P4 uMid rfl iMid) rfl ⟨A1, k1, by kernel_rfl, OwnC.updT O1.out EE.out T4 (by decide), Upd.ext EE.out E9.out P4_lo⟩
end
section
open Go Go.RowKit Go.Sort
def allF (eps : Int) (l : List Int) : List (Int × Int) × Nat := if tolB eps = true then (if 1073741824 < l.length then ([], 3) else ((allM eps l).map coM, 0)) else ([], 9)
theorem row_of (eps : Int) (s : Option Ms) : ∃ c lo hi : Int, stR eps s = miR eps c lo hi := by
 rcases s with _ | ⟨n, lo, hi⟩
 · exact ⟨0, 0, 0, rfl⟩
 · exact ⟨n, lo, hi, rfl⟩
end
section
open Go Go.RowKit Go.Shelf
def KpM (m go lw : Nat) (A B : World) : Prop := A.heap.size ≤ B.heap.size ∧ (∀ k, k < m → k ≠ go → k ≠ lw → B.heap[k]? = A.heap[k]?) ∧ ∀ k cs t fr, m ≤ k → A.heap[k]? = some (.cells cs t fr) → t ≠ 46 → B.heap[k]? = A.heap[k]?
attribute [local go_sem] Oper.semAt_some
set_option maxHeartbeats 6400000 in
set_option maxRecDepth 100000 in
theorem p_segs1 (nd : Nat) (hnd : 1 ≤ nd) (A : Option Addr) (n c : Nat) (l : List Int) (eps : Int) (he : Tol eps) (hn2 : n ≤ 1073741824) (hn : l.length = n) (Bs Bl Bg go lw : Nat) (J : List (List (Int × Int)) → World → Prop) (W : World)
   (hs : Blk W Bs 23 (miR eps 0 0 0)) (hs1 : Bs ≠ go ∧ Bs ≠ lw) (hl : W.cell? ⟨Bl, 0, none⟩ = some (.slice A n c)) (hl1 : Bl ≠ go ∧ Bl ≠ lw ∧ Bl < W.heap.size) (hg : Blk W Bg 75 sgF) (hg1 : Bg ≠ go ∧ Bg ≠ lw) (ht : TimesAt W A l) (ht1 : 0 < n → ∀ b off, A = some ⟨b, off, none⟩ → b ≠ go ∧ b ≠ lw)
   (hJE : ∀ pre A B, J pre A → Ext A B → J pre B) (hJU : ∀ pre A B b cs, W.heap.size ≤ b → Blk A b 23 cs → J pre A → Upd b A B → J pre B) (h0 : J [] W)
   (hY : ∀ pre W1 A1 k q, J pre W1 → OwnC 0 W1 (.slice A1 q.length k) q → q.length ≤ 1 → pre.length ≤ n → YieldAt Fence.wide (nd - 1) Try.prog lw #[.slice A1 q.length k] W1 fun e W' => e = .returned (.bool true) ∧ J (pre ++ [q]) W' ∧ KpM W.heap.size go lw W1 W') :
   CallsIn Fence.wide nd Try.prog 47 #[.func (.yield lw) #[] #[], .pointer (some ⟨Bs, 0, none⟩), .pointer (some ⟨Bl, 0, none⟩), .pointer (some ⟨Bg, 0, none⟩)] W fun e W' => (∃ v, e = .returned v) ∧ ∃ qs : List (List (Int × Int)), qs.flatten = (allM eps l).map coM ∧ J qs W' := by
 have s0 : W.cell? ⟨Bs, 0, none⟩ = some (.int .i64 eps) := hs.cell 0
 have s1 : W.cell? ⟨Bs, 1, none⟩ = some (.int .i64 0) := hs.cell 1
 have s2 : W.cell? ⟨Bs, 2, none⟩ = some (.int .i64 0) := hs.cell 2
 have s3 : W.cell? ⟨Bs, 3, none⟩ = some (.int .i64 0) := hs.cell 3
 have E5 := ext_alloc W (.cells #[.int .i64 eps, .int .i64 0, .int .i64 0, .int .i64 0] 23)
 have l5 := (E5.cell (p := ⟨Bl, 0, none⟩) hl1.2.2).trans hl
 have hen : ∀ a w, (callFunc 41 a).run Try.prog w = .ok (.enter 41 a) w := fun a w => by go_simp
 refine callsIn_of_wp Try.func47 rfl trivial ?_ rfl
 simp only [Try.ntmps47, List.size_toArray, List.length_cons, List.length_nil, Nat.reduceAdd, Nat.reduceSub, Array.replicate_succ, Array.replicate_zero, List.push_toArray, List.append_toArray, List.nil_append, List.cons_append]
 gi_wp2
 have HJ0 := hide (hJE [] W _ h0 E5)
 have P5 := hide (Blk.new W 23 (stR eps none))
 have He := hide he
 have Hn := hide hn
 have Ht := hide ht
 have Ht1 := hide ht1
 have HG := hide hg
 have Hg1 := hide hg1
 have HY := hide hY
 have HJE := hide hJE
 have HJU := hide hJU
 have HI := hide ht.1
 have hgW := hg.lt
 obtain ⟨m, hm⟩ : ∃ m, W.heap.size = m := ⟨_, rfl⟩
 obtain ⟨w1, hw1⟩ : ∃ w, W.alloc (.cells #[.int .i64 eps, .int .i64 0, .int .i64 0, .int .i64 0] 23) = w := ⟨_, rfl⟩
 have P5 : Hid (Blk w1 m 23 (stR eps (stateM eps none (l.take 0)))) := by rw [← hw1, ← hm]; exact P5
 rw [hw1] at HJ0 E5
 rw [hw1, hm]
 have E5 := hide E5
 rw [hm] at hgW HY HJU
 clear he hn ht ht1 hg hg1 hY hJE hJU h0 hs hs1 hl hl1 s0 s1 s2 s3 l5 hw1
 gi_loopw [7, 8, 9, 13] (fun _ _ _ iv wr => ∃ (k : Nat) (qs : List (List (Int × Int))), k ≤ n ∧ iv = .int .i64 (k : Int) ∧ qs.length = k ∧ Hid (qs.flatten = (doneM eps none (l.take k)).map coM) ∧ Hid (J qs wr) ∧ Hid (Blk wr m 23 (stR eps (stateM eps none (l.take k)))) ∧ Hid (W.heap.size ≤ wr.heap.size ∧ ∀ k, k < m → k ≠ go → k ≠ lw → wr.heap[k]? = W.heap[k]?)) (fun _ _ _ iv _ => n - (intOf iv).toNat)
 case atStart => exact ⟨0, [], by omega, rfl, rfl, hide (by simp [doneM]), HJ0, P5, hide ⟨E5.out.size, fun k hk _ _ => E5.out.block k (by omega)⟩⟩
 case round =>
   clear HJ0 P5 E5
   obtain ⟨k, qs, hk, rfl, hql, HX, HJ, HP, HK⟩ := hrel
   have kb : ∀ {B : Nat} {t : TypeId} {cs : Array Value}, B < m → B ≠ go → B ≠ lw → Blk W B t cs → Blk wr B t cs := fun h1 h2 h3 h => (HK.out.2 _ h1 h2 h3).trans h
   have G1 := hide (kb hgW Hg1.out.1 Hg1.out.2 HG.out)
   have T1 : Hid (TimesAt wr A l) := hide (by
     by_cases h0 : 0 < n
     · exact Ht.out.keep HK.out.1 (fun b off hA hb => HK.out.2 b (by omega) (Ht1.out h0 b off hA).1 (Ht1.out h0 b off hA).2)
     · obtain rfl : l = [] := List.length_eq_zero_iff.1 (by rw [Hn.out]; omega)
       exact TimesAt.nil _ _)
   clear kb
   obtain ⟨hok, hcnt⟩ := state_atM He.out HI.out (by rw [Hn.out]; exact hn2) k (by rw [Hn.out]; exact hk)
   have hmw := HP.out.lt
   by_cases hlt : k < n
   · have d1 : decide ((k : Int) < (n : Int)) = true := decide_eq_true (by omega)
     have him : k < l.length := by rw [Hn.out]; exact hlt
     obtain ⟨bm, om, rfl, _, hc⟩ := T1.out.2.2 (by omega)
     have ct := hc k him
     have ix := fun w => idxT bm om n c k hlt w
     have hv : l[k]? = some (l.getD k 0) := by rw [List.getElem?_eq_getElem him]; simp [List.getD_eq_getElem?_getD, him]
     have iv := HI.out.get k
     obtain ⟨hdone, hst⟩ := done_snocM eps hv
     obtain ⟨v, hvv⟩ : ∃ v, l.getD k 0 = v := ⟨_, rfl⟩
     rw [hvv] at ct hv iv hdone hst
     have KS := fun w => p_stepS eps (stateM eps none (l.take k)) v He.out hok (by omega) iv w
     obtain ⟨s, hs⟩ : ∃ s, stateM eps none (l.take k) = s := ⟨_, rfl⟩
     rw [hs] at KS hst HP hdone
     rw [← hst] at KS
     obtain ⟨q, hq⟩ : ∃ q, (stepM eps s v).2.map coM = q := ⟨_, rfl⟩
     have hq1 : q.length ≤ 1 := by
       rw [← hq, List.length_map]
       rcases s with _ | ⟨a1, a2, a3⟩
       · simp [stepM]
       · simp only [stepM]; split <;> simp
     have hdm : (qs ++ [q]).flatten = (doneM eps none (l.take (k + 1))).map coM := by rw [hdone, List.map_append, hq, List.flatten_append, HX.out]; simp
     rw [hq] at KS
     obtain ⟨c0, lo0, hi0, hr0⟩ := row_of eps s
     obtain ⟨c1, lo1, hi1, hr1⟩ := row_of eps (stateM eps none (l.take (k + 1)))
     rw [hr0] at KS HP
     rw [hr1] at KS
     have KS := hide KS
     have Hr1 := hide hr1
     have Hdm := hide hdm
     have e0 : wr.cell? ⟨m, 0, none⟩ = some (.int .i64 eps) := HP.out.cell 0
     have e1 : wr.cell? ⟨m, 1, none⟩ = some (.int .i64 c0) := HP.out.cell 1
     have e2 : wr.cell? ⟨m, 2, none⟩ = some (.int .i64 lo0) := HP.out.cell 2
     have e3 : wr.cell? ⟨m, 3, none⟩ = some (.int .i64 hi0) := HP.out.cell 3
     have f0 : wr.cell? ⟨Bg, 0, none⟩ = some (.func (.func 45) #[] #[]) := G1.out.cell 0
     have f1 : wr.cell? ⟨Bg, 1, none⟩ = some (.func (.func 46) #[] #[]) := G1.out.cell 1
     have f2 : wr.cell? ⟨Bg, 2, none⟩ = some (.func (.func 41) #[] #[]) := G1.out.cell 2
     unfold miR sgF at KS
     clear hc hvv hv hdone hst hok hcnt hs hq hr0 hr1 hdm him iv
     gi_wp2
     refine ⟨trivial, (callsIn_wide.2 (KS.out _)).mono ?_⟩
     rintro e w3 ⟨A3, k3, rfl, hO3, hE3⟩
     have EA := ext_alloc w3 (.cells #[.int .i64 eps, .int .i64 c1, .int .i64 lo1, .int .i64 hi1] 23)
     have B8 := Blk.new w3 23 #[.int .i64 eps, .int .i64 c1, .int .i64 lo1, .int .i64 hi1]
     have E4 := hE3.trans EA
     have hJ4 := HJE.out qs wr _ HJ.out E4
     obtain ⟨fn, tmps, assign, body, hy, hR⟩ := HY.out qs _ A3 k3 q hJ4 ((hO3.ext EA).less (Nat.zero_le _)) hq1 (by omega)
     (try dsimp only at hy)
     have hR := hide hR
     have E4 := hide E4
     have B8 := hide B8
     have h38 : m ≤ w3.heap.size := by have := hE3.size; omega
     clear EA hO3 hE3 hJ4 e0 e1 e2 e3 f0 f1 f2 ct
     gi_wp2
     refine hR.out.mono ?_
     rintro e w5 ⟨rfl, hJ5, hK5⟩
     have P5 : Blk w5 m _ _ := (hK5.2.2 m _ _ _ (Nat.le_refl _) (HP.out.ext E4.out) (by decide)).trans (HP.out.ext E4.out)
     have P8 : Blk w5 w3.heap.size _ _ := (hK5.2.2 _ _ _ _ h38 B8.out (by decide)).trans B8.out
     have hK6 : W.heap.size ≤ w5.heap.size ∧ ∀ k, k < m → k ≠ go → k ≠ lw → w5.heap[k]? = W.heap[k]? := ⟨by have h1 := HK.out.1; have h2 := E4.out.size; have h3 := hK5.1; omega, fun j h1 h2 h3 => (hK5.2.1 j h1 h2 h3).trans ((E4.out.block j (by omega)).trans (HK.out.2 j h1 h2 h3))⟩
     obtain ⟨b8, hb8⟩ : ∃ b, w3.heap.size = b := ⟨_, rfl⟩
     rw [hb8] at P8
     rw [hb8]
     have c0' : w5.cell? ⟨b8, 0, none⟩ = some (.int .i64 eps) := P8.cell 0
     have c1' : w5.cell? ⟨b8, 1, none⟩ = some (.int .i64 c1) := P8.cell 1
     have c2' : w5.cell? ⟨b8, 2, none⟩ = some (.int .i64 lo1) := P8.cell 2
     have c3' : w5.cell? ⟨b8, 3, none⟩ = some (.int .i64 hi1) := P8.cell 3
     have g0' : w5.cell? ⟨m, 0, none⟩ = some (.int .i64 eps) := P5.cell 0
     have g1' : w5.cell? ⟨m, 1, none⟩ = some (.int .i64 c0) := P5.cell 1
     have g2' : w5.cell? ⟨m, 2, none⟩ = some (.int .i64 lo0) := P5.cell 2
     have g3' : w5.cell? ⟨m, 3, none⟩ = some (.int .i64 hi0) := P5.cell 3
     have z0 := P5.frozen 0
     have z1 := P5.frozen 1
     have z2 := P5.frozen 2
     have z3 := P5.frozen 3
     have U9 := ((((Upd.refl m w5).set 0 (.int .i64 eps)).set 1 (.int .i64 c1)).set 2 (.int .i64 lo1)).set 3 (.int .i64 hi1)
     have P9 := (((P5.set_ 0 (.int .i64 eps)).set_ 1 (.int .i64 c1)).set_ 2 (.int .i64 lo1)).set_ 3 (.int .i64 hi1)
     have J9 := hide (HJU.out (qs ++ [q]) w5 _ m _ (Nat.le_refl _) P5 hJ5 U9)
     have K9 : Hid (W.heap.size ≤ (((((w5.setCell ⟨m, 0, none⟩ (.int .i64 eps)).setCell ⟨m, 1, none⟩ (.int .i64 c1)).setCell ⟨m, 2, none⟩ (.int .i64 lo1)).setCell ⟨m, 3, none⟩ (.int .i64 hi1))).heap.size ∧ ∀ k, k < m → k ≠ go → k ≠ lw → (((((w5.setCell ⟨m, 0, none⟩ (.int .i64 eps)).setCell ⟨m, 1, none⟩ (.int .i64 c1)).setCell ⟨m, 2, none⟩ (.int .i64 lo1)).setCell ⟨m, 3, none⟩ (.int .i64 hi1))).heap[k]? = W.heap[k]?) := hide ⟨Nat.le_trans hK6.1 U9.2.2.2.1, fun j h1 h2 h3 => (U9.2.2.2.2 j (by omega) (by omega)).trans (hK6.2 j h1 h2 h3)⟩
     have P9 : Hid (Blk (((((w5.setCell ⟨m, 0, none⟩ (.int .i64 eps)).setCell ⟨m, 1, none⟩ (.int .i64 c1)).setCell ⟨m, 2, none⟩ (.int .i64 lo1)).setCell ⟨m, 3, none⟩ (.int .i64 hi1))) m 23 (stR eps (stateM eps none (l.take (k + 1))))) := by show Blk _ _ _ _; rw [Hr1.out]; exact P9
     clear hJ5 hK5 hK6 U9 P5 P8 hR E4 B8 HP HK HJ
     gi_wp2
     go_roundw
     case rel => exact ⟨k + 1, qs ++ [q], by omega, by go_num, by rw [List.length_append, hql]; rfl, Hdm, J9, P9, K9⟩
     case measure => simp [intOf]; omega
   · obtain rfl : k = n := by omega
     have d1 : decide ((k : Int) < (k : Int)) = false := decide_eq_false (by omega)
     have hli : l.take k = l := List.take_of_length_le (by rw [Hn.out]; omega)
     rw [hli] at HX HP hok
     have KE := fun w => p_endS eps (stateM eps none l) hok w
     obtain ⟨q, hq⟩ : ∃ q, (endM (stateM eps none l)).map coM = q := ⟨_, rfl⟩
     have hq1 : q.length ≤ 1 := by rw [← hq, List.length_map]; rcases stateM eps none l with _ | ⟨a1, a2, a3⟩ <;> simp [endM]
     have hdm : (qs ++ [q]).flatten = (allM eps l).map coM := by unfold allM; rw [List.map_append, hq, List.flatten_append, HX.out]; simp
     rw [hq] at KE
     obtain ⟨c0, lo0, hi0, hr0⟩ := row_of eps (stateM eps none l)
     rw [hr0] at KE HP
     have KE := hide KE
     have Hdm := hide hdm
     have e0 : wr.cell? ⟨m, 0, none⟩ = some (.int .i64 eps) := HP.out.cell 0
     have e1 : wr.cell? ⟨m, 1, none⟩ = some (.int .i64 c0) := HP.out.cell 1
     have e2 : wr.cell? ⟨m, 2, none⟩ = some (.int .i64 lo0) := HP.out.cell 2
     have e3 : wr.cell? ⟨m, 3, none⟩ = some (.int .i64 hi0) := HP.out.cell 3
     have f2 : wr.cell? ⟨Bg, 2, none⟩ = some (.func (.func 41) #[] #[]) := G1.out.cell 2
     unfold miR at KE
     clear hli hok hcnt hq hr0 hdm
     gi_wp2
     refine ⟨trivial, (callsIn_wide.2 (KE.out _)).mono ?_⟩
     rintro e w3 ⟨A3, k3, rfl, hO3, hE3⟩
     have hJ4 := HJE.out qs wr _ HJ.out hE3
     obtain ⟨fn, tmps, assign, body, hy, hR⟩ := HY.out qs _ A3 k3 q hJ4 (hO3.less (Nat.zero_le _)) hq1 (by omega)
     (try dsimp only at hy)
     have hR := hide hR
     clear hO3 hE3 hJ4 e0 e1 e2 e3 f2
     gi_wp2
     refine hR.out.mono ?_
     rintro e w5 ⟨rfl, hJ5, hK5⟩
     have J5 := hide hJ5
     clear hJ5 hK5
     gi_wp2
     go_end0
     exact ⟨⟨_, rfl⟩, qs ++ [q], Hdm.out, J5.out⟩
end
section
open Go Go.RowKit Go.Shelf
def BdM (m go : Nat) (A B : World) : Prop := A.heap.size ≤ B.heap.size ∧ (∀ k, k < m → k ≠ go → B.heap[k]? = A.heap[k]?) ∧ ∀ k cs t fr, m ≤ k → A.heap[k]? = some (.cells cs t fr) → t ≠ 46 → B.heap[k]? = A.heap[k]?
theorem range_read {α : Type} (N : Nat) {g : Operand} {ps : Array Tmp} {assign body : Code} {Q : Exit → Act → World → Prop} {a : Act} {w : World} {n : Nat} (h1 : 1 ≤ n) {gf go : Nat} {lb : Array Value} (hgo : go < w.heap.size) (hg : a.eval g = .func (.func gf) #[] lb)
   (eg : ∀ args w, (callFunc gf args).run Try.prog w = .ok (.enter gf args) w) (encs : α → Array Value) (hps : ∀ x, (encs x).size = ps.size) (Rd : α → World → Prop) (S : List α → Prop) (I : List α → World → Prop) (a₁ : α → Act)
   (hseq : ∀ (J : List α → World → Prop) (W1 : World), Ext w W1 → W1.heap.size = w.heap.size + 2 → (∀ pre A B, J pre A → Ext A B → J pre B) → (∀ pre A B b cs, W1.heap.size ≤ b → Blk A b 23 cs → J pre A → Upd b A B → J pre B) → J [] W1 →
     (∀ pre W2 x, J pre W2 → Rd x W2 → pre.length < N → YieldAt Fence.wide (n - 1 - 1) Try.prog (w.heap.size + 1) (encs x) W2 fun e W' => e = .returned (.bool true) ∧ J (pre ++ [x]) W' ∧ KpM W1.heap.size go (w.heap.size + 1) W2 W') →
     CallsIn Fence.wide (n - 1) Try.prog gf (#[.func (.yield (w.heap.size + 1)) #[] #[]] ++ lb) W1 fun e W' => (∃ v, e = .returned v) ∧ ∃ xs, S xs ∧ J xs W')
   (hIE : ∀ pre A B, I pre A → Ext A B → I pre B) (hIU : ∀ pre A B b cs, w.heap.size + 2 ≤ b → Blk A b 23 cs → I pre A → Upd b A B → I pre B) (hIP : ∀ pre A j o o', w.heap.size ≤ j → A.heap[j]? = some o → o.isCells = false → I pre A → I pre (A.putObj j o'))
   (hRP : ∀ x A j o o', A.heap[j]? = some o → o.isCells = false → Rd x A → Rd x (A.putObj j o')) (h0 : I [] w)
   (hassign : ∀ (x : α) (W : World) (K : Act → World → Prop), K (a₁ x) W → assign.wpIn (Fence.wide.inRound (w.heap.size + 1)) (n - 1 - 1) Try.prog (Exit.then K (fun _ _ _ => False)) { tmps := (ps.zip (encs x)).foldl (fun t (p, v) => t.setIfInBounds p v) a.tmps, defers := [] } W)
   (hbody : ∀ (pre : List α) (x : α) (W : World), I pre W → Rd x W → pre.length < N → w.heap.size + 2 ≤ W.heap.size → body.wpIn (Fence.wide.inRound (w.heap.size + 1)) (n - 1 - 1) Try.prog (fun e _ W' => e = .normal ∧ BdM (w.heap.size + 2) go W W' ∧ I (pre ++ [x]) W') (a₁ x) W)
   (hdone : ∀ (xs : List α) (W : World), S xs → I xs W → W.heap[w.heap.size]? = some (.deferred (some [])) → Q .normal { a with defers := { target := .collected w.heap.size, args := #[] } :: a.defers } W) :
   (Code.rangeFunc g ps assign body).wpIn Fence.wide n Try.prog Q a w := by
 refine wpIn_rangeFunc ?_
 intro fn hfn
 rw [show Fence.wide.round = none from rfl]
 obtain ⟨rec, hrec⟩ : ∃ rec : LoopState → Option Code → Loop, rec = fun st pe => { state := st, pending := pe, fn, tmps := a.tmps, params := ps, assign, body, defers := w.heap.size } := ⟨_, rfl⟩
 obtain ⟨D, hD⟩ : ∃ D, w.heap.size = D := ⟨_, rfl⟩
 obtain ⟨W1, hW1⟩ : ∃ W1, (w.alloc (.deferred (some []))).alloc (.loop (rec .ready none)) = W1 := ⟨_, rfl⟩
 have hE1 : Ext w W1 := by rw [← hW1]; exact (ext_alloc _ _).trans (ext_alloc _ _)
 have hs1 : W1.heap.size = w.heap.size + 2 := by rw [← hW1]; simp only [alloc_size]
 have hL1 : W1.heap[w.heap.size + 1]? = some (.loop (rec .ready none)) := by
   have := World.alloc_heap_new (w.alloc (.deferred (some []))) (.loop (rec .ready none))
   rw [alloc_size, hW1] at this
   exact this
 have hK1 : W1.heap[w.heap.size]? = some (.deferred (some [])) := by
   have h := World.alloc_heap_new w (.deferred (some []))
   have := (ext_alloc (w.alloc (.deferred (some []))) (.loop (rec .ready none))).block w.heap.size (by rw [alloc_size]; omega)
   rw [hW1] at this
   exact this.trans h
 refine ⟨w.heap.size + 1, [{ target := .collected w.heap.size, args := #[] }], W1, { target := .fn (.func gf) lb, args := #[.func (.yield (w.heap.size + 1)) #[] #[]] }, W1, gf, #[.func (.yield (w.heap.size + 1)) #[] #[]] ++ lb, W1, ?_, ?_, ?_, ?_, fun _ => h1, ?_⟩
 · rw [← hW1, hrec]; exact run_enterLoop_outer _ _ _ _ _
 · simp only [resolve, hg]
   simp [go_sem]
 · intro f' hf'; simp [Target.leads] at hf'; subst hf'; trivial
 · simp [invoke, go_sem, eg]
 have ne1 : ∀ {A B : World} {b : Nat} {cs : Array Value} {o : Obj} {j : Nat}, Blk A b 23 cs → Upd b A B → A.heap[j]? = some o → o.isCells = false → B.heap[j]? = some o := fun hb hu hj ho =>
   (hu.2.2.2.2 _ (Array.getElem?_eq_some_iff.1 hj).1 (fun e => by subst e; unfold Blk at hb; rw [hb] at hj; cases hj; cases ho)).trans hj
 refine (hseq (fun pre W => I pre W ∧ W.heap[w.heap.size + 1]? = some (.loop (rec .ready none)) ∧ W.heap[w.heap.size]? = some (.deferred (some []))) W1 hE1 hs1
   (fun pre A B h e => ⟨hIE _ _ _ h.1 e, (e.block _ (Array.getElem?_eq_some_iff.1 h.2.1).1).trans h.2.1, (e.block _ (Array.getElem?_eq_some_iff.1 h.2.2).1).trans h.2.2⟩)
   (fun pre A B b cs hb hB h u => ⟨hIU _ _ _ _ _ (by omega) hB h.1 u, ne1 hB u h.2.1 rfl, ne1 hB u h.2.2 rfl⟩) ⟨hIE _ _ _ h0 hE1, hL1, hK1⟩ ?_).mono ?_
 · rintro pre W2 x ⟨hi, hl, hk⟩ hr hN
   have hlt : w.heap.size + 1 < W2.heap.size := (Array.getElem?_eq_some_iff.1 hl).1
   have hy := run_yield (P := Try.prog) (args := encs x) hl (by rw [hrec]; exact hps x)
   rw [hrec] at hy
   refine ⟨fn, _, assign, body, hy, roundIn_of_wpIn hfn (hassign x W2 _ ⟨_, run_beginRound hl (by rw [hrec]), ?_⟩)⟩
   have hz : (W2.putObj (w.heap.size + 1) (.loop { rec .ready none with state := .busy })).heap.size = W2.heap.size := by simp [World.putObj]
   have hl2 : (W2.putObj (w.heap.size + 1) (.loop { rec .ready none with state := .busy })).heap[w.heap.size + 1]? = some (.loop { rec .ready none with state := .busy }) := World.putObj_heap_same hlt
   have hk2 : (W2.putObj (w.heap.size + 1) (.loop { rec .ready none with state := .busy })).heap[w.heap.size]? = some (.deferred (some [])) := (World.putObj_heap_other (by omega)).trans hk
   refine wpIn_mono (hbody pre x _ (hIP _ _ _ _ _ (by omega) hl rfl hi) (hRP _ _ _ _ _ hl rfl hr) hN (by rw [hz]; omega)) ?_
   rintro e a3 W3 ⟨rfl, hB, hi3⟩
   have hl3 := (hB.2.1 (w.heap.size + 1) (by omega) (by omega)).trans hl2
   have hk3 := (hB.2.1 w.heap.size (by omega) (by omega)).trans hk2
   have hr3 := run_endRound (P := Try.prog) none hl3
   rw [hrec] at hr3
   have hlt3 : w.heap.size + 1 < W3.heap.size := (Array.getElem?_eq_some_iff.1 hl3).1
   refine ⟨_, _, hr3, rfl, ⟨hIP _ _ _ _ _ (by omega) hl3 rfl hi3, ?_, (World.putObj_heap_other (by omega)).trans hk3⟩, ?_, fun k h1 h2 h3 => ?_, fun k cs t fr h1 h2 h3 => ?_⟩
   · rw [hrec]
     exact World.putObj_heap_same hlt3
   · have := hB.1
     rw [hz] at this
     simpa [World.putObj] using this
   · rw [World.putObj_heap_other (by omega), hB.2.1 k (by omega) h2, World.putObj_heap_other (by omega)]
   · have hkk : k ≠ w.heap.size + 1 := by omega
     have e2 : (W2.putObj (w.heap.size + 1) (.loop { rec .ready none with state := .busy })).heap[k]? = W2.heap[k]? := World.putObj_heap_other (by omega)
     rw [World.putObj_heap_other (by omega), hB.2.2 k cs t fr (by omega) (e2.trans h2) h3, e2]
 · rintro e W2 ⟨⟨v, rfl⟩, xs, hS, hi, hl, hk⟩
   have hr := run_endLoop (P := Try.prog) hl (by rw [hrec]; simp)
   rw [hrec] at hr
   exact ⟨none, _, hr, hdone xs _ hS (hIP _ _ _ _ _ (by omega) hl rfl hi) ((World.putObj_heap_other (by omega)).trans hk)⟩
end
section
open Go Go.RowKit Go.Shelf
abbrev Cv := Option Addr × Nat × List (Int × Int)
theorem OwnC.putO {B j : Nat} {w : World} {v : Value} {l : List (Int × Int)} {o o' : Obj} (h : OwnC B w v l) (hj : w.heap[j]? = some o) (ho : o.isCells = false) : OwnC B (w.putObj j o') v l := by
 obtain ⟨⟨h1, h2⟩, h3⟩ := h
 refine ⟨⟨h1, ?_⟩, h3⟩
 rcases h2 with h2 | ⟨g, cap, cur, hv, hg, hh, r⟩
 · exact Or.inl h2
 · exact Or.inr ⟨g, cap, cur, hv, hg, (World.putObj_heap_other (fun e => by subst e; rw [hj] at hh; cases hh; cases ho)).trans hh, r⟩
def AllI (W : World) (B go : Nat) (pre : List Cv) (W' : World) : Prop := ∃ v, Blk W' go 39 #[v] ∧ OwnC B W' v ((pre.map (·.2.2)).flatten) ∧ ((pre.map (·.2.2)).flatten).length ≤ pre.length ∧ Ext W W'
theorem AllI.ext {W A B' : World} {B go : Nat} {pre : List Cv} (h : AllI W B go pre A) (e : Ext A B') : AllI W B go pre B' := by
 obtain ⟨v, h1, h2, h4, h3⟩ := h
 exact ⟨v, h1.ext e, h2.ext e, h4, h3.trans e⟩
theorem AllI.upd {W A B' : World} {B go b : Nat} {pre : List Cv} {cs : Array Value} (h : AllI W B go pre A) (hW : W.heap.size ≤ b) (hgo : go ≠ b) (hB : Blk A b 23 cs) (u : Upd b A B') : AllI W B go pre B' := by
 obtain ⟨v, h1, h2, h4, h3⟩ := h
 exact ⟨v, (u.2.2.2.2 go h1.lt hgo).trans h1, h2.updT u hB (by decide), h4, u.ext h3 hW⟩
theorem AllI.putO {W A : World} {B go j : Nat} {pre : List Cv} {o o' : Obj} (h : AllI W B go pre A) (hW : W.heap.size ≤ j) (hgo : go ≠ j) (hj : A.heap[j]? = some o) (ho : o.isCells = false) : AllI W B go pre (A.putObj j o') := by
 obtain ⟨v, h1, h2, h4, h3⟩ := h
 exact ⟨v, (World.putObj_heap_other (by omega)).trans h1, h2.putO hj ho, h4, h3.grown (grownBy_putObj' A j o') h3.size (fun k e => by cases e; exact hW)⟩
theorem bd_app {m go : Nat} {W3 w4 : World} {v : Value} {T : List (Int × Int)} (hs : m ≤ W3.heap.size) (hgo : go < m) (HO : OwnC m W3 v T) (hG : W3.grownBy w4 v.ownBlock) (u : Value) : BdM m go W3 (w4.setCell ⟨go, 0, none⟩ u) := by
 have U := upd_set w4 go 0 u
 have hz := hG.size
 have hc : ∀ k, k < W3.heap.size → k ≠ go → k ≠ go → v.ownBlock ≠ some k → (w4.setCell ⟨go, 0, none⟩ u).heap[k]? = W3.heap[k]? := fun k h1 h2 _ h3 => (U.2.2.2.2 k (by omega) h2).trans (hG.block k h1 (fun e => h3 e.symm))
 refine ⟨Nat.le_trans hz U.2.2.2.1, fun k h1 h2 => hc k (by omega) h2 h2 (fun e => by have := (HO.1.lt k e).1; omega), fun k cs t fr h1 h2 h3 => hc k (Array.getElem?_eq_some_iff.1 h2).1 (by omega) (by omega) (fun e => ?_)⟩
 rcases HO.1.2 with ⟨rfl, _⟩ | ⟨g, cap, cur, rfl, _, hh, _⟩
 · simp [Value.ownBlock] at e
 · obtain rfl : g = k := by simpa [Value.ownBlock] using e
   rw [hh] at h2
   cases h2
   exact h3 rfl
theorem all_app {W W3 w4 : World} {m go : Nat} {pre : List Cv} {x : Cv} {v v4 : Value} (hs : m ≤ W3.heap.size) (hgo : go < m) (hW : W.heap.size ≤ go) (hv : Blk W3 go 39 #[v]) (HO : OwnC m W3 v ((pre.map (·.2.2)).flatten)) (hl : ((pre.map (·.2.2)).flatten).length ≤ pre.length) (hx : x.2.2.length ≤ 1) (hE : Ext W W3) (hG : W3.grownBy w4 v.ownBlock) (hO4 : OwnC m w4 v4 ((pre.map (·.2.2)).flatten ++ x.2.2)) : AllI W m go (pre ++ [x]) (w4.setCell ⟨go, 0, none⟩ v4) := by
 have hv4 : Blk w4 go 39 #[v] := (hG.block go (by omega) (fun e => by have := (HO.1.lt go e.symm).1; omega)).trans hv
 have e : ((pre ++ [x]).map (·.2.2)).flatten = (pre.map (·.2.2)).flatten ++ x.2.2 := by simp
 have hE4 : Ext W w4 := hE.grown hG hE.size (fun k e => by have := (HO.1.lt k e).1; omega)
 refine ⟨v4, hv4.set_ 0 v4, ?_, ?_, (upd_set w4 go 0 v4).ext hE4 hW⟩
 · rw [e]; exact hO4.upd (upd_set w4 go 0 v4) hgo
 · rw [e, List.length_append, List.length_append, List.length_singleton]; omega
theorem wlIn_appendC {F : Fence} {nd : Nat} {ops : Array Oper} {rest : List Oper} {o : Oper} {a : Act} {Q : Exit → Act → World → Prop} {w : World} (hgd : o.guard = none) (s x : Operand)
   (ho : o.op = .call { callee := .builtin .append, args := #[s, x], argTypes := #[39, 39] })
   (B : Nat) (v : Value) (l0 l : List (Int × Int)) (hs : a.eval s = v) (hown : OwnC B w v l0) (A : Option Addr) (m c : Nat) (hx : a.eval x = .slice A m c) (hb : SampsAt w A l) (hm : l.length = m) (hlen : l0.length + l.length ≤ 8796093022208) (hbase : B ≤ w.heap.size)
   (h : ∀ v' w', OwnC B w' v' (l0 ++ l) → w.grownBy w' v.ownBlock → wpListIn F nd Try.prog ops Q rest (a.put o.dst v') w') : wpListIn F nd Try.prog ops Q (o :: rest) a w := by
 refine wpListIn_plain hgd fun K hK' => ?_
 obtain ⟨v', w', hrun, h2, h3, h4⟩ := run_appendC B w o.type v l0 l hown A m c hb hm hlen hbase
 unfold Oper.wpIn
 refine ⟨?_, ?_⟩
 · simp [Oper.about, ho, resolve, Target.leads, Sem.run_pure]
 · rw [Oper.semAt_plain F _ _ (by rw [ho]; intro c hc'; cases hc')]
   simp [execOp, ho, resolve, invoke, builtin, hs, hx, hrun, Result.andThen]
   exact hK' _ _ (h v' w' h2 h3)
theorem p_segsF (A : Option Addr) (n c : Nat) (eps : Int) (w : World) :
   Calls Try.prog 37 #[.agg sgF, .agg (miR eps 0 0 0), .slice A n c] w fun e w' => e = .returned (.func (.func 47) #[] #[.pointer (some ⟨w.heap.size + 1, 0, none⟩), .pointer (some ⟨w.heap.size + 1 + 1, 0, none⟩), .pointer (some ⟨w.heap.size, 0, none⟩)]) ∧ w' = ((w.alloc (.cells sgF 75)).alloc (.cells (miR eps 0 0 0) 23)).alloc (.cells #[.slice A n c] 36) := by
 have hmf : ∀ (fn : Fn) (first cap : Array Value) (w : World), (Instr.makeFunc fn first cap).run Try.prog w = .ok (.func fn first cap) w := fun _ _ _ _ => rfl
 unfold sgF miR
 go_enter Try.func37, Try.ntmps37
 go_wp2_with fail
 go_ret
 exact ⟨rfl, rfl⟩
theorem p_allT (A : Option Addr) (n c : Nat) (eps : Int) (W : World) (ht : tolB eps = false) : Calls Try.prog 17 #[.slice A n c, .int .i64 eps] W (CoFin [] 9 W) := by
 have KS := hide fun w => p_startM_no eps w (hide fun w => p_tolI eps w false ht)
 unfold z4m at *
 clear ht
 go_enter Try.func17, Try.ntmps17
 go_wp2_with (go_at_call 10; (with_reducible refine (KS.out _).mono ?_); rintro e w1 ⟨rfl, hE⟩; have E1 := hide hE; clear hE)
 go_ret2
 exact ⟨none, 0, rfl, OwnC.nil_ _ _, E1.out.trans (ext_alloc _ _)⟩
theorem p_allL (A : Option Addr) (n c : Nat) (eps : Int) (W : World) (ht : tolB eps = true) (hn : 1073741824 < n) : Calls Try.prog 17 #[.slice A n c, .int .i64 eps] W (CoFin [] 3 W) := by
 have KS := hide fun w => p_startM eps w (hide fun w => p_tolI eps w true ht)
 have d0 : decide ((1073741824 : Int) < (n : Int)) = true := decide_eq_true (by omega)
 unfold miR at *
 clear ht hn
 go_enter Try.func17, Try.ntmps17
 go_wp2_with (go_at_call 10; (with_reducible refine (KS.out _).mono ?_); rintro e w1 ⟨rfl, hE⟩; have E1 := hide hE; clear hE)
 go_ret2
 exact ⟨none, 0, rfl, OwnC.nil_ _ _, E1.out.trans (ext_alloc _ _)⟩
attribute [local go_sem] Oper.semAt_some
set_option maxHeartbeats 6400000 in
set_option maxRecDepth 100000 in
theorem p_allG (A : Option Addr) (n c : Nat) (l : List Int) (eps : Int) (W : World) (he : Tol eps) (hl : TimesAt W A l) (hn : l.length = n) (hn2 : n ≤ 1073741824) (L : List (Int × Int)) (hLL : (allM eps l).map coM = L) : Calls Try.prog 17 #[.slice A n c, .int .i64 eps] W (CoFin L 0 W) := by
 have KS := hide fun w => p_startM eps w (hide fun w => p_tolI eps w true (tolB_iff.2 he))
 have km := hide fun w => p_middles w
 have kq := hide fun w => p_segsF A n c eps w
 have d0 : decide ((1073741824 : Int) < (n : Int)) = false := decide_eq_false (by omega)
 have Hl := hide hl
 have Hn := hide hn
 have He := hide he
 have HLL := hide hLL
 clear hl hn he hLL
 unfold miR at KS kq
 unfold sgF at km kq
 refine (callsIn_wide (n := 4)).1 ?_
 refine callsIn_of_wp_marks Try.func17 rfl trivial ?_ rfl
 simp only [Try.ntmps17, List.size_toArray, List.length_cons, List.length_nil, Nat.reduceAdd, Nat.reduceSub, Array.replicate_succ, Array.replicate_zero, List.push_toArray, List.append_toArray, List.nil_append, List.cons_append]
 gi_wp2_with (refine ⟨trivial, ?_⟩; gi_at_call 10; refine (callsIn_wide.2 (KS.out _)).mono ?_; rintro e w1 ⟨rfl, hE⟩; have E1 := hide hE; clear hE)
 have P6 := (Blk.new w1 23 #[.int .i64 eps, .int .i64 0, .int .i64 0, .int .i64 0]).alloc (.cells #[.slice none 0 0] 39)
 have P8 := Blk.new (w1.alloc (.cells #[.int .i64 eps, .int .i64 0, .int .i64 0, .int .i64 0] 23)) 39 #[.slice none 0 0]
 have E2 := E1.out.trans ((ext_alloc w1 (.cells #[.int .i64 eps, .int .i64 0, .int .i64 0, .int .i64 0] 23)).trans (ext_alloc _ (.cells #[.slice none 0 0] 39)))
 have hz := E1.out.size
 rw [alloc_size] at P8
 obtain ⟨w2, hw2⟩ : ∃ w, (w1.alloc (.cells #[.int .i64 eps, .int .i64 0, .int .i64 0, .int .i64 0] 23)).alloc (.cells #[.slice none 0 0] 39) = w := ⟨_, rfl⟩
 obtain ⟨g6, hg6⟩ : ∃ g, w1.heap.size = g := ⟨_, rfl⟩
 rw [hw2, hg6] at P6 P8
 rw [hw2] at E2
 rw [hg6] at hz
 rw [hw2, hg6]
 have P6 := hide P6
 have P8 := hide P8
 have E2 := hide E2
 clear hw2 hg6 E1 KS
 have c0 : w2.cell? ⟨g6, 0, none⟩ = some (.int .i64 eps) := P6.out.cell 0
 have c1 : w2.cell? ⟨g6, 1, none⟩ = some (.int .i64 0) := P6.out.cell 1
 have c2 : w2.cell? ⟨g6, 2, none⟩ = some (.int .i64 0) := P6.out.cell 2
 have c3 : w2.cell? ⟨g6, 3, none⟩ = some (.int .i64 0) := P6.out.cell 3
 refine wpIn_mono (Q := fun e a' w' => e = .normal ∧ ∃ w3, Ext w2 w3 ∧ w' = ((w3.alloc (.cells sgF 75)).alloc (.cells (miR eps 0 0 0) 23)).alloc (.cells #[.slice A n c] 36) ∧ a' = { tmps := #[.slice A n c, .int .i64 eps, undef, undef, .slice none 0 0, .int .i64 0, .pointer (some ⟨g6, 0, none⟩), .int .i64 0, .pointer (some ⟨g6 + 1, 0, none⟩), undef, .tuple #[.agg #[.int .i64 eps, .int .i64 0, .int .i64 0, .int .i64 0], .int .i64 0], .int .i64 eps, .tuple #[.agg #[.int .i64 eps, .int .i64 0, .int .i64 0, .int .i64 0], .int .i64 0], .agg #[.int .i64 eps, .int .i64 0, .int .i64 0, .int .i64 0], .int .i64 0, .int .i64 0, .bool false, undef, .slice A n c, .int .i64 (n : Int), .bool false, .agg #[.func (.func 45) #[] #[], .func (.func 46) #[] #[], .func (.func 41) #[] #[]], .agg #[.int .i64 eps, .int .i64 0, .int .i64 0, .int .i64 0], .slice A n c, .func (.func 47) #[] #[.pointer (some ⟨w3.heap.size + 1, 0, none⟩), .pointer (some ⟨w3.heap.size + 1 + 1, 0, none⟩), .pointer (some ⟨w3.heap.size, 0, none⟩)], undef, undef, undef, undef, undef], defers := [] }) ?reg ?rest
 case reg =>
   refine wpIn_region_any (by kernel_rfl) ?_
   (try (change wpAnyIn _ _ _ _ _ _ _ _ _ (World.drew _)))
   refine wpAnyIn_ready (rs := [0, 1, 2]) (by kernel_rfl) (by simp) ?_
   refine AllReadyIn.cons rfl (fun K hK => ?_) ?_
   · go_simp
     gi_wp2_with (refine ⟨trivial, ?_⟩; gi_at_call 36; refine (callsIn_wide.2 (km.out _)).mono ?_; rintro e w3 ⟨rfl, hE⟩; have E3 : Hid (Ext w2 w3) := hide ((ext_drew w2).trans hE); have e0 : w3.cell? ⟨g6, 0, none⟩ = some (.int .i64 eps) := (P6.out.ext E3.out).cell 0; have e1 : w3.cell? ⟨g6, 1, none⟩ = some (.int .i64 0) := (P6.out.ext E3.out).cell 1; have e2 : w3.cell? ⟨g6, 2, none⟩ = some (.int .i64 0) := (P6.out.ext E3.out).cell 2; have e3 : w3.cell? ⟨g6, 3, none⟩ = some (.int .i64 0) := (P6.out.ext E3.out).cell 3; clear hE)
     refine wpAnyIn_ready (rs := [1, 2]) (by kernel_rfl) (by simp) ?_
     refine AllReadyIn.cons rfl (fun K hK => ?_) ?_
     · go_simp
       refine hK _ _ ?_
       clear hK K
       refine wpAnyIn_ready (rs := [2]) (by kernel_rfl) (by simp) ?_
       refine AllReadyIn.cons rfl (fun K hK => ?_) ?_
       · go_simp
         refine hK _ _ ?_
         clear hK K
         refine wpAnyIn_ready (rs := [3]) (by kernel_rfl) (by simp) ?_
         refine AllReadyIn.cons rfl (fun K hK => ?_) ?_
         · go_simp
           gi_wp2_with (refine ⟨trivial, ?_⟩; gi_at_call 37; refine (callsIn_wide.2 (kq.out _)).mono ?_; rintro e w4 ⟨rfl, hw4⟩; have Hw4 := hide hw4; clear hw4)
           refine wpAnyIn_done (by kernel_rfl) ?_ _
           exact ⟨rfl, w3, E3.out, Hw4.out, rfl⟩
         exact AllReadyIn.nil
       exact AllReadyIn.nil
     refine AllReadyIn.cons rfl (fun K hK => ?_) ?_
     · go_simp
       refine hK _ _ ?_
       clear hK K
       refine wpAnyIn_ready (rs := [1]) (by kernel_rfl) (by simp) ?_
       refine AllReadyIn.cons rfl (fun K hK => ?_) ?_
       · go_simp
         refine hK _ _ ?_
         clear hK K
         refine wpAnyIn_ready (rs := [3]) (by kernel_rfl) (by simp) ?_
         refine AllReadyIn.cons rfl (fun K hK => ?_) ?_
         · go_simp
           gi_wp2_with (refine ⟨trivial, ?_⟩; gi_at_call 37; refine (callsIn_wide.2 (kq.out _)).mono ?_; rintro e w4 ⟨rfl, hw4⟩; have Hw4 := hide hw4; clear hw4)
           refine wpAnyIn_done (by kernel_rfl) ?_ _
           exact ⟨rfl, w3, E3.out, Hw4.out, rfl⟩
         exact AllReadyIn.nil
       exact AllReadyIn.nil
     exact AllReadyIn.nil
   refine AllReadyIn.cons rfl (fun K hK => ?_) ?_
   · go_simp
     refine hK _ _ ?_
     clear hK K
     refine wpAnyIn_ready (rs := [0, 2]) (by kernel_rfl) (by simp) ?_
     refine AllReadyIn.cons rfl (fun K hK => ?_) ?_
     · go_simp
       gi_wp2_with (refine ⟨trivial, ?_⟩; gi_at_call 36; refine (callsIn_wide.2 (km.out _)).mono ?_; rintro e w3 ⟨rfl, hE⟩; have E3 : Hid (Ext w2 w3) := hide ((ext_drew w2).trans hE); have e0 : w3.cell? ⟨g6, 0, none⟩ = some (.int .i64 eps) := (P6.out.ext E3.out).cell 0; have e1 : w3.cell? ⟨g6, 1, none⟩ = some (.int .i64 0) := (P6.out.ext E3.out).cell 1; have e2 : w3.cell? ⟨g6, 2, none⟩ = some (.int .i64 0) := (P6.out.ext E3.out).cell 2; have e3 : w3.cell? ⟨g6, 3, none⟩ = some (.int .i64 0) := (P6.out.ext E3.out).cell 3; clear hE)
       refine wpAnyIn_ready (rs := [2]) (by kernel_rfl) (by simp) ?_
       refine AllReadyIn.cons rfl (fun K hK => ?_) ?_
       · go_simp
         refine hK _ _ ?_
         clear hK K
         refine wpAnyIn_ready (rs := [3]) (by kernel_rfl) (by simp) ?_
         refine AllReadyIn.cons rfl (fun K hK => ?_) ?_
         · go_simp
           gi_wp2_with (refine ⟨trivial, ?_⟩; gi_at_call 37; refine (callsIn_wide.2 (kq.out _)).mono ?_; rintro e w4 ⟨rfl, hw4⟩; have Hw4 := hide hw4; clear hw4)
           refine wpAnyIn_done (by kernel_rfl) ?_ _
           exact ⟨rfl, w3, E3.out, Hw4.out, rfl⟩
         exact AllReadyIn.nil
       exact AllReadyIn.nil
     refine AllReadyIn.cons rfl (fun K hK => ?_) ?_
     · go_simp
       refine hK _ _ ?_
       clear hK K
       refine wpAnyIn_ready (rs := [0]) (by kernel_rfl) (by simp) ?_
       refine AllReadyIn.cons rfl (fun K hK => ?_) ?_
       · go_simp
         gi_wp2_with (refine ⟨trivial, ?_⟩; gi_at_call 36; refine (callsIn_wide.2 (km.out _)).mono ?_; rintro e w3 ⟨rfl, hE⟩; have E3 : Hid (Ext w2 w3) := hide ((ext_drew w2).trans hE); have e0 : w3.cell? ⟨g6, 0, none⟩ = some (.int .i64 eps) := (P6.out.ext E3.out).cell 0; have e1 : w3.cell? ⟨g6, 1, none⟩ = some (.int .i64 0) := (P6.out.ext E3.out).cell 1; have e2 : w3.cell? ⟨g6, 2, none⟩ = some (.int .i64 0) := (P6.out.ext E3.out).cell 2; have e3 : w3.cell? ⟨g6, 3, none⟩ = some (.int .i64 0) := (P6.out.ext E3.out).cell 3; clear hE)
         refine wpAnyIn_ready (rs := [3]) (by kernel_rfl) (by simp) ?_
         refine AllReadyIn.cons rfl (fun K hK => ?_) ?_
         · go_simp
           gi_wp2_with (refine ⟨trivial, ?_⟩; gi_at_call 37; refine (callsIn_wide.2 (kq.out _)).mono ?_; rintro e w4 ⟨rfl, hw4⟩; have Hw4 := hide hw4; clear hw4)
           refine wpAnyIn_done (by kernel_rfl) ?_ _
           exact ⟨rfl, w3, E3.out, Hw4.out, rfl⟩
         exact AllReadyIn.nil
       exact AllReadyIn.nil
     exact AllReadyIn.nil
   refine AllReadyIn.cons rfl (fun K hK => ?_) ?_
   · go_simp
     refine hK _ _ ?_
     clear hK K
     refine wpAnyIn_ready (rs := [0, 1]) (by kernel_rfl) (by simp) ?_
     refine AllReadyIn.cons rfl (fun K hK => ?_) ?_
     · go_simp
       gi_wp2_with (refine ⟨trivial, ?_⟩; gi_at_call 36; refine (callsIn_wide.2 (km.out _)).mono ?_; rintro e w3 ⟨rfl, hE⟩; have E3 : Hid (Ext w2 w3) := hide ((ext_drew w2).trans hE); have e0 : w3.cell? ⟨g6, 0, none⟩ = some (.int .i64 eps) := (P6.out.ext E3.out).cell 0; have e1 : w3.cell? ⟨g6, 1, none⟩ = some (.int .i64 0) := (P6.out.ext E3.out).cell 1; have e2 : w3.cell? ⟨g6, 2, none⟩ = some (.int .i64 0) := (P6.out.ext E3.out).cell 2; have e3 : w3.cell? ⟨g6, 3, none⟩ = some (.int .i64 0) := (P6.out.ext E3.out).cell 3; clear hE)
       refine wpAnyIn_ready (rs := [1]) (by kernel_rfl) (by simp) ?_
       refine AllReadyIn.cons rfl (fun K hK => ?_) ?_
       · go_simp
         refine hK _ _ ?_
         clear hK K
         refine wpAnyIn_ready (rs := [3]) (by kernel_rfl) (by simp) ?_
         refine AllReadyIn.cons rfl (fun K hK => ?_) ?_
         · go_simp
           gi_wp2_with (refine ⟨trivial, ?_⟩; gi_at_call 37; refine (callsIn_wide.2 (kq.out _)).mono ?_; rintro e w4 ⟨rfl, hw4⟩; have Hw4 := hide hw4; clear hw4)
           refine wpAnyIn_done (by kernel_rfl) ?_ _
           exact ⟨rfl, w3, E3.out, Hw4.out, rfl⟩
         exact AllReadyIn.nil
       exact AllReadyIn.nil
     refine AllReadyIn.cons rfl (fun K hK => ?_) ?_
     · go_simp
       refine hK _ _ ?_
       clear hK K
       refine wpAnyIn_ready (rs := [0]) (by kernel_rfl) (by simp) ?_
       refine AllReadyIn.cons rfl (fun K hK => ?_) ?_
       · go_simp
         gi_wp2_with (refine ⟨trivial, ?_⟩; gi_at_call 36; refine (callsIn_wide.2 (km.out _)).mono ?_; rintro e w3 ⟨rfl, hE⟩; have E3 : Hid (Ext w2 w3) := hide ((ext_drew w2).trans hE); have e0 : w3.cell? ⟨g6, 0, none⟩ = some (.int .i64 eps) := (P6.out.ext E3.out).cell 0; have e1 : w3.cell? ⟨g6, 1, none⟩ = some (.int .i64 0) := (P6.out.ext E3.out).cell 1; have e2 : w3.cell? ⟨g6, 2, none⟩ = some (.int .i64 0) := (P6.out.ext E3.out).cell 2; have e3 : w3.cell? ⟨g6, 3, none⟩ = some (.int .i64 0) := (P6.out.ext E3.out).cell 3; clear hE)
         refine wpAnyIn_ready (rs := [3]) (by kernel_rfl) (by simp) ?_
         refine AllReadyIn.cons rfl (fun K hK => ?_) ?_
         · go_simp
           gi_wp2_with (refine ⟨trivial, ?_⟩; gi_at_call 37; refine (callsIn_wide.2 (kq.out _)).mono ?_; rintro e w4 ⟨rfl, hw4⟩; have Hw4 := hide hw4; clear hw4)
           refine wpAnyIn_done (by kernel_rfl) ?_ _
           exact ⟨rfl, w3, E3.out, Hw4.out, rfl⟩
         exact AllReadyIn.nil
       exact AllReadyIn.nil
     exact AllReadyIn.nil
   exact AllReadyIn.nil
 case rest =>
 rintro e a' w' ⟨rfl, w3, hE3, hw4, rfl⟩
 have Q1 := ((Blk.new w3 75 sgF).alloc (.cells (miR eps 0 0 0) 23)).alloc (.cells #[.slice A n c] 36)
 have Q2 := (Blk.new (w3.alloc (.cells sgF 75)) 23 (miR eps 0 0 0)).alloc (.cells #[.slice A n c] 36)
 have Q3 := Blk.new ((w3.alloc (.cells sgF 75)).alloc (.cells (miR eps 0 0 0) 23)) 36 #[.slice A n c]
 have EQ := ((ext_alloc w3 (.cells sgF 75)).trans (ext_alloc _ (.cells (miR eps 0 0 0) 23))).trans (ext_alloc _ (.cells #[.slice A n c] 36))
 have hz4 : w'.heap.size = w3.heap.size + 1 + 1 + 1 := by rw [hw4]; simp only [alloc_size]
 simp only [alloc_size] at Q2 Q3
 rw [← hw4] at Q1 Q2 Q3 EQ
 have hz3 := hE3.size
 have hg8 := P8.out.lt
 have R8 := hide ((P8.out.ext hE3).ext EQ)
 have E4 := hide (E2.out.trans (hE3.trans EQ))
 have Q1 := hide Q1
 have Q2 := hide Q2
 have Q3 := hide Q3
 obtain ⟨q3, hq3⟩ : ∃ q, w3.heap.size = q := ⟨_, rfl⟩
 rw [hq3] at Q1 Q2 Q3 hz4 hz3 ⊢
 clear hq3 hw4 EQ hE3 P6 P8 E2 c0 c1 c2 c3 km kq
 gi_wp2
 have hgo : g6 + 1 < w'.heap.size := by omega
 have HE := hide (enters_of Try.func47 (by kernel_rfl) rfl)
 refine range_read (n + 1) (go := g6 + 1) (gf := 47) (lb := #[.pointer (some ⟨q3 + 1, 0, none⟩), .pointer (some ⟨q3 + 1 + 1, 0, none⟩), .pointer (some ⟨q3, 0, none⟩)]) (by decide) hgo rfl HE.out (fun x : Cv => #[.slice x.1 x.2.2.length x.2.1]) (fun _ => rfl)
   (fun x W => OwnC 0 W (.slice x.1 x.2.2.length x.2.1) x.2.2 ∧ x.2.2.length ≤ 1) (fun xs => (xs.map (·.2.2)).flatten = L) (AllI W (w'.heap.size + 2) (g6 + 1))
   (fun x => { tmps := #[.slice A n c, .int .i64 eps, undef, undef, .slice none 0 0, .int .i64 0, .pointer (some ⟨g6, 0, none⟩), .int .i64 0, .pointer (some ⟨g6 + 1, 0, none⟩), .slice x.1 x.2.2.length x.2.1, .tuple #[.agg #[.int .i64 eps, .int .i64 0, .int .i64 0, .int .i64 0], .int .i64 0], .int .i64 eps, .tuple #[.agg #[.int .i64 eps, .int .i64 0, .int .i64 0, .int .i64 0], .int .i64 0], .agg #[.int .i64 eps, .int .i64 0, .int .i64 0, .int .i64 0], .int .i64 0, .int .i64 0, .bool false, undef, .slice A n c, .int .i64 (n : Int), .bool false, .agg #[.func (.func 45) #[] #[], .func (.func 46) #[] #[], .func (.func 41) #[] #[]], .agg #[.int .i64 eps, .int .i64 0, .int .i64 0, .int .i64 0], .slice A n c, .func (.func 47) #[] #[.pointer (some ⟨q3 + 1, 0, none⟩), .pointer (some ⟨q3 + 1 + 1, 0, none⟩), .pointer (some ⟨q3, 0, none⟩)], (.slice x.1 x.2.2.length x.2.1), undef, undef, undef, undef], defers := [] }) ?hseq ?hIE ?hIU ?hIP ?hRP ?h0 ?hassign ?hbody ?hdone
 case hseq =>
   intro J W1 hW1 hs1 hJE hJU hJ0 hY
   have hh : w'.heap.size ≤ W1.heap.size := hW1.size
   refine (p_segs1 3 (by decide) A n c l eps He.out hn2 Hn.out (q3 + 1) (q3 + 1 + 1) q3 (g6 + 1) (w'.heap.size + 1) (fun qs W => ∃ xs : List Cv, xs.map (·.2.2) = qs ∧ J xs W) W1
     (Q2.out.ext hW1) ⟨by omega, by omega⟩ ((Q3.out.ext hW1).cell 0) ⟨by omega, by omega, by omega⟩ (Q1.out.ext hW1) ⟨by omega, by omega⟩ (Hl.out.ext (E4.out.trans hW1)) (fun h0 b off hA => ?_) ?_ ?_ ⟨[], rfl, hJ0⟩ ?_).mono ?_
   · obtain ⟨b', off', hA', hb', _⟩ := Hl.out.2.2 (by rw [Hn.out]; exact h0)
     rw [hA] at hA'
     cases hA'
     exact ⟨by omega, by have := E4.out.size; omega⟩
   · rintro pre X Y ⟨xs, h1, h2⟩ h3
     exact ⟨xs, h1, hJE _ _ _ h2 h3⟩
   · rintro pre X Y b cs hb hB ⟨xs, h1, h2⟩ hu
     exact ⟨xs, h1, hJU _ _ _ _ _ hb hB h2 hu⟩
   · rintro pre W2 A1 k q ⟨xs, rfl, h2⟩ hO hq1 hpn
     obtain ⟨fn, tmps, assign, body, hy, hR⟩ := hY xs W2 (A1, k, q) h2 ⟨hO, hq1⟩ (by rw [List.length_map] at hpn; omega)
     refine ⟨fn, tmps, assign, body, hy, hR.mono ?_⟩
     rintro e W' ⟨rfl, h3, h4⟩
     exact ⟨rfl, ⟨xs ++ [(A1, k, q)], by simp, h3⟩, h4⟩
   · rintro e W' ⟨hv, qs, hq, xs, rfl, hx⟩
     exact ⟨hv, xs, hq.trans HLL.out, hx⟩
 case hIE => exact fun _ _ _ h e => h.ext e
 case hIU => exact fun _ _ _ _ _ hb hB h u => h.upd (by have := E4.out.size; omega) (by omega) hB u
 case hIP => exact fun _ _ _ _ _ hj ho hc h => h.putO (by have := E4.out.size; omega) (by omega) ho hc
 case hRP => exact fun _ _ _ _ _ ho hc h => ⟨h.1.putO ho hc, h.2⟩
 case h0 => exact ⟨.slice none 0 0, R8.out, OwnC.nil_ _ _, Nat.zero_le _, E4.out⟩
 case hassign =>
   intro x W' K hK
   gi_wp2
   exact hK
 case hbody =>
   rintro pre x W3 ⟨v, hv, hO, hl1, hE⟩ ⟨hR, hx1⟩ hN hs
   obtain ⟨A1, k, q⟩ := x
   dsimp only at hR hx1 ⊢
   have c8 : W3.cell? ⟨g6 + 1, 0, none⟩ = some v := hv.cell 0
   have HH := hide (fun w4 v4 hG hO4 => all_app (x := (A1, k, q)) (v4 := v4) (w4 := w4) hs (by omega : g6 + 1 < w'.heap.size + 2) (Nat.le_succ_of_le hz) hv hO hl1 hx1 hE hG hO4)
   have HB := hide (fun w4 v4 hG => bd_app (w4 := w4) hs (by omega : g6 + 1 < w'.heap.size + 2) hO hG v4)
   have HV := hide (fun w4 (hG : W3.grownBy w4 v.ownBlock) => show Blk w4 (g6 + 1) 39 #[v] from (hG.block (g6 + 1) (by omega) (fun e => by have := (hO.1.lt (g6 + 1) e.symm).1; omega)).trans hv)
   obtain ⟨T, hT⟩ : ∃ T, (pre.map (·.2.2)).flatten = T := ⟨_, rfl⟩
   rw [hT] at hO hl1 HH
   have HO := hide hO
   have HR := hide (own_co hR)
   have hle : T.length + q.length ≤ 8796093022208 := by omega
   clear hv hO hR hE hT hl1
   gi_wp2_with (refine wlIn_appendC rfl (.tmp 26) (.tmp 27) rfl (w'.heap.size + 2) _ T q rfl HO.out A1 _ k rfl HR.out rfl hle hs ?_; intro v4 w4 hO4 hG4; have c9 : w4.cell? ⟨g6 + 1, 0, none⟩ = some v := (HV.out w4 hG4).cell 0; have f9 := (HV.out w4 hG4).frozen 0; have X1 := hide (HH.out w4 v4 hG4 hO4); have X2 := hide (HB.out w4 v4 hG4); obtain ⟨A4, c4, rfl, _, _, _⟩ := hO4.at_; clear hO4 hG4)
   have h1 := X1.out
   have h2 := X2.out
   rw [List.length_append, hz4] at h1 h2
   exact ⟨h2, h1⟩
 case hdone =>
   rintro xs W2 hS ⟨v, hv, hO, -, hE⟩ hK
   have c8 : W2.cell? ⟨g6 + 1, 0, none⟩ = some v := hv.cell 0
   rw [hS] at hO
   have O9 := hide ((hO.putO (o' := .deferred none) hK rfl).less (B' := W.heap.size) (by have := E4.out.size; omega))
   have E9 := hide (hE.grown (grownBy_putObj' W2 w'.heap.size (.deferred none)) hE.size (fun k e => by cases e; exact E4.out.size))
   obtain ⟨A1, c1, rfl, _, _, _⟩ := hO.at_
   clear hv hO hE hS
   gi_wp2
   refine ⟨by simp, .inl ⟨_, _, rfl, run_takeDeferred hK, ?_⟩⟩
   refine ⟨_, results_tmp2 rfl _ _ _, ?_⟩
   exact ⟨A1, c1, rfl, O9.out, E9.out⟩
theorem p_allF (A : Option Addr) (n c : Nat) (l : List Int) (eps : Int) (W : World) (hl : TimesAt W A l) (hn : l.length = n) : Calls Try.prog 17 #[.slice A n c, .int .i64 eps] W (CoFin (allF eps l).1 (allF eps l).2 W) := by
 unfold allF
 cases ht : tolB eps with
 | false => exact p_allT A n c eps W ht
 | true =>
   rw [if_pos rfl]
   by_cases h : 1073741824 < l.length
   · rw [if_pos h]
     exact p_allL A n c eps W ht (by omega)
   · rw [if_neg h]
     exact p_allG A n c l eps W (tolB_iff.1 ht) hl hn (by omega) _ rfl
end
section
open Go Go.RowKit Go.Sort
theorem eqC2 (a b a' b' : Int) (w : World) : (binOp .eql 46 (.agg #[.int .i64 a, .int .i64 b]) (.agg #[.int .i64 a', .int .i64 b'])).run Try.prog w = .ok (.bool (a == a' && b == b')) w := by
 have hS : Try.prog.underlying 46 = some (.struct (Try.prog.fieldsOf 46)) := by kernel_rfl
 have hp : Try.prog.stoodInHeld 46 = false := by kernel_rfl
 have u := Try.underlying2
 have z := Try.sizeOf2
 have u2 := Try.underlying3
 have z2 := Try.sizeOf3
 rw [run_eql_struct, show (10000 : Nat) = 9999 + 1 from rfl, run_equalIn_agg w 9999 46 _ _ hS hp]
 simp only [Program.fieldsOf, Try.underlying46]
 have he : ∀ (x y : Int) (w : World), (Op.equalIn 9999 2 (.int .i64 x) (.int .i64 y)).run Try.prog w = .ok (x == y) w := fun x y w => run_equalIn_int w 9998 2 .i64 .i64 x y u
 have he2 : ∀ (x y : Int) (w : World), (Op.equalIn 9999 3 (.int .i64 x) (.int .i64 y)).run Try.prog w = .ok (x == y) w := fun x y w => run_equalIn_int w 9998 3 .i64 .i64 x y u2
 simp [Op.eqFields, Go.part, isAgg, run_underlying u, run_underlying u2, u, u2, z, z2, he, he2]
 by_cases h0 : a = a' <;> by_cases h1 : b = b' <;> simp [h0, h1]
theorem neC2 (a b : Int) (w : World) : (binOp .neq 46 (.agg #[.int .i64 a, .int .i64 b]) (.agg #[.int .i64 a, .int .i64 b])).run Try.prog w = .ok (.bool false) w := by
 have h := eqC2 a b a b w
 simp only [BEq.rfl, Bool.and_self] at h
 rw [run_eql_struct] at h
 have h : (Op.equalIn 10000 46 (.agg #[.int .i64 a, .int .i64 b]) (.agg #[.int .i64 a, .int .i64 b])).run Try.prog w = .ok true w := by
   generalize (Op.equalIn 10000 46 (.agg #[.int .i64 a, .int .i64 b]) (.agg #[.int .i64 a, .int .i64 b])).run Try.prog w = r at h ⊢
   cases r <;> simp_all [Result.andThen]
 simp only [binOp]
 simp [Op.equal, Op.maxDepth, h, Result.andThen]
set_option maxHeartbeats 3200000 in
set_option maxRecDepth 100000 in
theorem r_sameC (A A2 : Option Addr) (n c c2 : Nat) (x : List (Int × Int)) (W : World) (hx : SampsAt W A x) (hxn : x.length = n) (hy : SampsAt W A2 x) :
   Calls Try.prog 19 #[.slice A n c, .slice A2 n c2] W (Ret (.bool true) W) := by
 have hn63 : n ≤ 9223372036854775807 := by have := hx.2.1; omega
 have d0 : ((n : Int) != (n : Int)) = false := by simp
 have HX := hide hx
 have HY := hide hy
 have Hxn := hide hxn
 have E1 : Hid (Ext W W) := Ext.refl _
 clear hx hy hxn
 go_enter Try.func19, Try.ntmps19
 go_wp2_with fail
 go_loopw [5] (fun iv wr => ∃ i : Nat, i ≤ n ∧ iv = .int .i64 (i : Int) ∧ Hid (Ext W wr)) (fun iv _ => n - (intOf iv).toNat)
 case atStart => exact ⟨0, by omega, rfl, E1⟩
 case round =>
   clear E1
   obtain ⟨i, hi, rfl, HE⟩ := hrel
   by_cases hlt : i < n
   · have d1 : decide ((i : Int) < (n : Int)) = true := decide_eq_true (by omega)
     have hix : i < x.length := by rw [Hxn.out]; exact hlt
     obtain ⟨b1, o1, rfl, hb1, hc1⟩ := (HX.out.ext HE.out).2.2 (by omega)
     obtain ⟨b2, o2, rfl, hb2, hc2⟩ := (HY.out.ext HE.out).2.2 (by omega)
     have p1 := (hc1 i hix).1
     have p2 := (hc1 i hix).2
     have q1 := (hc2 i hix).1
     have q2 := (hc2 i hix).2
     rw [← Nat.add_assoc] at p2 q2
     have ixa := fun w => idxC b1 o1 n c i hlt w
     have ixb := fun w => idxC b2 o2 n c2 i hlt w
     obtain ⟨u, hu⟩ : ∃ z, (x.getD i (0, 0)).1 = z := ⟨_, rfl⟩
     obtain ⟨v, hv⟩ : ∃ z, (x.getD i (0, 0)).2 = z := ⟨_, rfl⟩
     rw [hu] at p1 q1
     rw [hv] at p2 q2
     have ne := fun w => neC2 u v w
     have cp1 := fun d os => cell_regrown p1 d os
     have cp2 := fun d os => cell_regrown p2 d os
     have cq1 := fun d os => cell_regrown q1 d os
     have cq2 := fun d os => cell_regrown q2 d os
     clear hc1 hc2 hu hv hix hb1 hb2
     go_upto_region 6 with fail
     refine wp_region_quiet_below (by kernel_rfl) (by kernel_rfl) ?_
     repeat (first | go_big_quiet_step (fail) | quiet_step (fail))
     refine wpQuiet_nil ?_
     intro _ hw'
     obtain ⟨⟨dq, osq⟩, hw''⟩ := hw'
     subst hw''
     have HE2 := hide (HE.out.trans (ext_regrown wr dq osq))
     clear cp1 cp2 cq1 cq2 p1 p2 q1 q2 HE
     go_wp2_with fail
     go_roundw
     case rel => exact ⟨i + 1, by omega, by go_num, HE2⟩
     case measure => simp [intOf]; omega
   · obtain rfl : i = n := by omega
     have d1 : decide ((i : Int) < (i : Int)) = false := decide_eq_false (by omega)
     go_wp2_with fail
     go_ret
     exact ⟨rfl, HE.out⟩
theorem k15 : allF 2 [1, 2, 5, 6] = ([(3, 3), (1, 6)], 0) := by decide +kernel
theorem l_known15 (W : World) : Calls Try.prog 13 #[] W (Ret (.bool true) W) := by
 have E0 := hide (ext_alloc W (.cells #[.int .i64 1, .int .i64 2, .int .i64 5, .int .i64 6] 2))
 have H0 := new_atT W [1, 2, 5, 6] (by intro x hx; simp at hx; unfold I64; omega) (by simp) #[.int .i64 1, .int .i64 2, .int .i64 5, .int .i64 6] rfl
 have KA := p_allF (some ⟨W.heap.size, 0, none⟩) 4 4 [1, 2, 5, 6] 2 _ H0 rfl
 rw [k15] at KA
 have KA := hide KA
 have e1 := fun w => eqC2 3 3 3 3 w
 have e2 := fun w => eqC2 1 6 1 6 w
 clear H0
 go_enter Try.func13, Try.ntmps13
 go_wp2_with (go_at_call 17; (with_reducible refine (KA.out).mono ?_); rintro e w1 ⟨A1, c1, rfl, hO, hE⟩; obtain ⟨b1, o1, rfl, _, hc⟩ := (own_co hO).2.2 (by simp); have p0 : w1.cell? ⟨b1, o1, none⟩ = some (.int .i64 3) := (hc 0 (by simp)).1; have p1 : w1.cell? ⟨b1, o1 + 1, none⟩ = some (.int .i64 3) := (hc 0 (by simp)).2; have p2 : w1.cell? ⟨b1, o1 + 2, none⟩ = some (.int .i64 1) := (hc 1 (by simp)).1; have p3 : w1.cell? ⟨b1, o1 + 2 + 1, none⟩ = some (.int .i64 6) := (hc 1 (by simp)).2; have ix0 : ∀ w, (Instr.indexAt 39 (.slice (some ⟨b1, o1, none⟩) 2 c1) (.int .i64 0)).run Try.prog w = .ok (.pointer (some ⟨b1, o1, none⟩)) w := (fun w => idxC b1 o1 2 c1 0 (by omega) w); have ix1 : ∀ w, (Instr.indexAt 39 (.slice (some ⟨b1, o1, none⟩) 2 c1) (.int .i64 1)).run Try.prog w = .ok (.pointer (some ⟨b1, o1 + 2, none⟩)) w := (fun w => idxC b1 o1 2 c1 1 (by omega) w); have E1 := hide (E0.out.trans hE); clear hc hO hE)
 go_ret
 exact ⟨rfl, E1.out⟩
end
section
open Go Go.RowKit Go.Sort
set_option maxHeartbeats 1600000 in
theorem p_stepF (eps : Int) (s : Option Ms) (v : Int) (he : Tol eps) (hs : OkM eps s) (hv : I64 v) (W : World) : Calls Try.prog 29 #[.agg (stR eps s), .int .i64 v] W (CoTrip (stepF eps s v).1 (stepF eps s v).2.1 (stepF eps s v).2.2 W) := by
 have kv := hide fun w => p_validS eps s he hs w
 unfold stepF
 by_cases hc : cntS s = 1073741824
 · rw [if_pos hc]
   refine p_stepL (stR eps s) v (stR_size eps s) ?_ kv W
   rcases s with _ | ⟨n, lo, hi⟩
   · simp [cntS] at hc
   · have hc : n = 1073741824 := hc
     subst hc
     rfl
 · rw [if_neg hc]
   have hcl : cntS s < 1073741824 := by
     rcases s with _ | ⟨n, lo, hi⟩
     · decide
     · have := hs.2.1
       have h2 : ¬ n = 1073741824 := hc
       show n < 1073741824
       omega
   have ks := fun w => p_stepS eps s v he hs hcl hv w
   obtain ⟨c1, a, b, h1⟩ := row_of eps (stepM eps s v).1
   rw [h1] at ks ⊢
   rcases s with _ | ⟨n, lo, hi⟩
   · exact p_stepK eps 0 0 0 c1 a b v _ (by decide) kv (hide ks) W
   · exact p_stepK eps n lo hi c1 a b v _ (by rw [beq_eq_false_iff_ne]; have : n < 1073741824 := hcl; omega) kv (hide ks) W
theorem both (t c lo hi v : Int) (ht : I64 t) (hl : I64 lo) (hh : I64 hi) (hv : I64 v) : ∃ (t' c' a b : Int) (l lf : List (Int × Int)) (er ef : Nat) (vv : Bool),
   (∀ w, Calls Try.prog 29 #[.agg (miR t c lo hi), .int .i64 v] w (CoTrip (miR t' c' a b) l er w)) ∧ (∀ w, Calls Try.prog 25 #[.agg (miR t c lo hi), .int .i64 v] w (CoTrip (miR t' c' a b) l er w)) ∧
   (∀ w, Calls Try.prog 30 #[.agg (miR t c lo hi)] w (CoFin lf ef w)) ∧ (∀ w, Calls Try.prog 31 #[.agg (miR t c lo hi)] w (CoFin lf ef w)) ∧
   (∀ w, Calls Try.prog 32 #[.agg (miR t c lo hi)] w (Ret (.bool vv) w)) ∧ (∀ w, Calls Try.prog 33 #[.agg (miR t c lo hi)] w (Ret (.bool vv) w)) := by
 cases hok : okB t c lo hi with
 | false =>
   have k1 := fun w => p_valid t c lo hi w ht hl hh false hok
   have k2 := fun w => r_valid t c lo hi w ht hl hh false hok
   exact ⟨0, 0, 0, 0, [], [], 1, 1, false, fun w => p_stepX t c lo hi v w (hide k1), fun w => (r_stepI t c lo hi v w (hide k2)).mono fun _ _ h => trip_nil h, fun w => p_finX t c lo hi w (hide k1), fun w => r_finN t c lo hi w (hide k2), k1, k2⟩
 | true =>
   obtain ⟨he, s, hs, hr, _⟩ := ok_st hl hh hok
   rw [hr]
   obtain ⟨c', a, b, h1⟩ := row_of t (stepM t s v).1
   have kp := fun w => p_stepF t s v he hs hv w
   have kr := fun w => r_stepF t s v he hs hv w
   unfold stepF at kp kr
   by_cases hc : cntS s = 1073741824
   · rw [if_pos hc] at kp kr
     exact ⟨0, 0, 0, 0, [], (endM s).map coM, 3, 0, true, kp, kr, fun w => p_finS t s he hs w, fun w => r_finS t s he hs w, fun w => p_validS t s he hs w, fun w => r_validS t s he hs w⟩
   · rw [if_neg hc] at kp kr
     rw [h1] at kp kr
     exact ⟨t, c', a, b, (stepM t s v).2.map coM, (endM s).map coM, 0, 0, true, kp, kr, fun w => p_finS t s he hs w, fun w => r_finS t s he hs w, fun w => p_validS t s he hs w, fun w => r_validS t s he hs w⟩
theorem eqM4 (t c a b : Int) (w : World) : (binOp .eql 23 (.agg #[.int .i64 t, .int .i64 c, .int .i64 a, .int .i64 b]) (.agg #[.int .i64 t, .int .i64 c, .int .i64 a, .int .i64 b])).run Try.prog w = .ok (.bool true) w := by
 have hS : Try.prog.underlying 23 = some (.struct (Try.prog.fieldsOf 23)) := by kernel_rfl
 have hp : Try.prog.stoodInHeld 23 = false := by kernel_rfl
 have u := Try.underlying2
 have z := Try.sizeOf2
 have u2 := Try.underlying3
 have z2 := Try.sizeOf3
 rw [run_eql_struct, show (10000 : Nat) = 9999 + 1 from rfl, run_equalIn_agg w 9999 23 _ _ hS hp]
 simp only [Program.fieldsOf, Try.underlying23]
 have he : ∀ (x y : Int) (w : World), (Op.equalIn 9999 2 (.int .i64 x) (.int .i64 y)).run Try.prog w = .ok (x == y) w := fun x y w => run_equalIn_int w 9998 2 .i64 .i64 x y u
 have he2 : ∀ (x y : Int) (w : World), (Op.equalIn 9999 3 (.int .i64 x) (.int .i64 y)).run Try.prog w = .ok (x == y) w := fun x y w => run_equalIn_int w 9998 3 .i64 .i64 x y u2
 simp [Op.eqFields, Go.part, isAgg, run_underlying u, run_underlying u2, u, u2, z, z2, he, he2]
set_option maxHeartbeats 6400000 in
set_option maxRecDepth 100000 in
theorem l_alike15 (t c lo hi v : Int) (W : World) (ht : I64 t) (hl : I64 lo) (hh : I64 hi) (hv : I64 v) : Calls Try.prog 14 #[.agg (miR t c lo hi), .int .i64 v] W (Ret (.bool true) W) := by
 obtain ⟨t', c', a, b, l, lf, er, ef, vv, k1, k2, k3, k4, k5, k6⟩ := both t c lo hi v ht hl hh hv
 have k1 := hide k1
 have k2 := hide k2
 have k3 := hide k3
 have k4 := hide k4
 have k5 := hide k5
 have k6 := hide k6
 have P2 := hide (Blk.new W 23 (miR t c lo hi))
 have E2 := hide (ext_alloc W (.cells (miR t c lo hi) 23))
 unfold miR at *
 obtain ⟨g, hg⟩ : ∃ q, W.heap.size = q := ⟨_, rfl⟩
 obtain ⟨w1, hw1⟩ : ∃ w, W.alloc (.cells #[.int .i64 t, .int .i64 c, .int .i64 lo, .int .i64 hi] 23) = w := ⟨_, rfl⟩
 rw [hw1, hg] at P2
 rw [hw1] at E2
 have Hw := hide hw1
 have Hg := hide hg
 clear hw1 hg ht hl hh hv
 have C2 : Hid (∀ w, Ext w1 w → w.cell? ⟨g, 0, none⟩ = some (.int .i64 t) ∧ w.cell? ⟨g, 1, none⟩ = some (.int .i64 c) ∧ w.cell? ⟨g, 2, none⟩ = some (.int .i64 lo) ∧ w.cell? ⟨g, 3, none⟩ = some (.int .i64 hi)) := hide fun w h => ⟨(P2.out.ext h).cell 0, (P2.out.ext h).cell 1, (P2.out.ext h).cell 2, (P2.out.ext h).cell 3⟩
 obtain ⟨q0, q1, q2, q3⟩ := C2.out w1 (Ext.refl _)
 go_enter Try.func14, Try.ntmps14
 go_upto_region 1 with fail
 rw [Hw.out, Hg.out]
 clear Hw Hg
 go_upto_region 2 with (go_at_call 29; (with_reducible refine (k1.out _).mono ?_); rintro e w2 ⟨A2, m2, rfl, hO2, hE2⟩)
 have E3 := hide (hE2.trans (ext_alloc w2 (.cells #[.int .i64 t', .int .i64 c', .int .i64 a, .int .i64 b] 23)))
 have O3 := hide (own_co (hO2.alloc (.cells #[.int .i64 t', .int .i64 c', .int .i64 a, .int .i64 b] 23)))
 have P3 := hide (Blk.new w2 23 #[.int .i64 t', .int .i64 c', .int .i64 a, .int .i64 b])
 obtain ⟨g3, hg3⟩ : ∃ q, w2.heap.size = q := ⟨_, rfl⟩
 obtain ⟨w3, hw3⟩ : ∃ w, w2.alloc (.cells #[.int .i64 t', .int .i64 c', .int .i64 a, .int .i64 b] 23) = w := ⟨_, rfl⟩
 rw [hw3] at E3 O3
 rw [hw3, hg3] at P3
 rw [hw3, hg3]
 clear hw3 hg3 hO2 hE2 q0 q1 q2 q3 k1
 obtain ⟨q0, q1, q2, q3⟩ := C2.out w3 E3.out
 go_upto_region 3 with (go_at_call 25; (with_reducible refine (k2.out _).mono ?_); rintro e w4 ⟨A4, m4, rfl, hO4, hE4⟩)
 have E5 := hide (hE4.trans (ext_alloc w4 (.cells #[.int .i64 t', .int .i64 c', .int .i64 a, .int .i64 b] 23)))
 have O5 := hide (own_co (hO4.alloc (.cells #[.int .i64 t', .int .i64 c', .int .i64 a, .int .i64 b] 23)))
 have P5 := hide (Blk.new w4 23 #[.int .i64 t', .int .i64 c', .int .i64 a, .int .i64 b])
 obtain ⟨g5, hg5⟩ : ∃ q, w4.heap.size = q := ⟨_, rfl⟩
 obtain ⟨w5, hw5⟩ : ∃ w, w4.alloc (.cells #[.int .i64 t', .int .i64 c', .int .i64 a, .int .i64 b] 23) = w := ⟨_, rfl⟩
 rw [hw5] at E5 O5
 rw [hw5, hg5] at P5
 rw [hw5, hg5]
 clear hw5 hg5 hO4 hE4 q0 q1 q2 q3 k2
 obtain ⟨q0, q1, q2, q3⟩ := C2.out w5 (E3.out.trans E5.out)
 go_upto_region 4 with (go_at_call 30; (with_reducible refine (k3.out _).mono ?_); rintro e w6 ⟨A6, m6, rfl, hO6, hE6⟩)
 have O6 := hide (own_co hO6)
 have E6 := hide hE6
 clear hO6 hE6 q0 q1 q2 q3 k3
 obtain ⟨q0, q1, q2, q3⟩ := C2.out w6 ((E3.out.trans E5.out).trans E6.out)
 go_upto_region 5 with (go_at_call 31; (with_reducible refine (k4.out _).mono ?_); rintro e w7 ⟨A7, m7, rfl, hO7, hE7⟩)
 have O7 := hide (own_co hO7)
 have E7 := hide hE7
 clear hO7 hE7 q0 q1 q2 q3 k4
 have EE := hide (((E3.out.trans E5.out).trans E6.out).trans E7.out)
 have s1 := hide (fun d os => r_sameC A2 A4 l.length m2 m4 l (grow (redrawn w7 d) os) (O3.out.ext (((E5.out.trans E6.out).trans E7.out).trans (ext_regrown w7 d os))) rfl (O5.out.ext ((E6.out.trans E7.out).trans (ext_regrown w7 d os))))
 have s2 := hide (fun d os => r_sameC A6 A7 lf.length m6 m7 lf (grow (redrawn w7 d) os) (O6.out.ext (E7.out.trans (ext_regrown w7 d os))) rfl (O7.out.ext (ext_regrown w7 d os)))
 have X3 := P3.out.ext ((E5.out.trans E6.out).trans E7.out)
 have X5 := P5.out.ext (E6.out.trans E7.out)
 have C7 : Hid (∀ d os, (grow (redrawn w7 d) os).cell? ⟨g3, 0, none⟩ = some (.int .i64 t') ∧ (grow (redrawn w7 d) os).cell? ⟨g3, 1, none⟩ = some (.int .i64 c') ∧ (grow (redrawn w7 d) os).cell? ⟨g3, 2, none⟩ = some (.int .i64 a) ∧ (grow (redrawn w7 d) os).cell? ⟨g3, 3, none⟩ = some (.int .i64 b)) := hide fun d os => ⟨(X3.ext (ext_regrown w7 d os)).cell 0, (X3.ext (ext_regrown w7 d os)).cell 1, (X3.ext (ext_regrown w7 d os)).cell 2, (X3.ext (ext_regrown w7 d os)).cell 3⟩
 have C8 : Hid (∀ d os, (grow (redrawn w7 d) os).cell? ⟨g5, 0, none⟩ = some (.int .i64 t') ∧ (grow (redrawn w7 d) os).cell? ⟨g5, 1, none⟩ = some (.int .i64 c') ∧ (grow (redrawn w7 d) os).cell? ⟨g5, 2, none⟩ = some (.int .i64 a) ∧ (grow (redrawn w7 d) os).cell? ⟨g5, 3, none⟩ = some (.int .i64 b)) := hide fun d os => ⟨(X5.ext (ext_regrown w7 d os)).cell 0, (X5.ext (ext_regrown w7 d os)).cell 1, (X5.ext (ext_regrown w7 d os)).cell 2, (X5.ext (ext_regrown w7 d os)).cell 3⟩
 have x0 := fun d os => (C7.out d os).1
 have x1 := fun d os => (C7.out d os).2.1
 have x2 := fun d os => (C7.out d os).2.2.1
 have x3 := fun d os => (C7.out d os).2.2.2
 have y0 := fun d os => (C8.out d os).1
 have y1 := fun d os => (C8.out d os).2.1
 have y2 := fun d os => (C8.out d os).2.2.1
 have y3 := fun d os => (C8.out d os).2.2.2
 have z0 := fun d os => (C2.out _ (EE.out.trans (ext_regrown w7 d os))).1
 have z1 := fun d os => (C2.out _ (EE.out.trans (ext_regrown w7 d os))).2.1
 have z2 := fun d os => (C2.out _ (EE.out.trans (ext_regrown w7 d os))).2.2.1
 have z3 := fun d os => (C2.out _ (EE.out.trans (ext_regrown w7 d os))).2.2.2
 have em := fun w => eqM4 t' c' a b w
 have b1 : (vv == vv) = true := by simp
 have b2 : ((er : Int) == (er : Int)) = true := by simp
 have b3 : ((ef : Int) == (ef : Int)) = true := by simp
 clear X3 X5 O3 O5 O6 O7 P3 P5 E3 E5 E6 E7 C7 C8
 refine wp_region_quiet_below (by kernel_rfl) (by kernel_rfl) ?_
 repeat (first | go_big_quiet_step (first | with_reducible exact quiet_ret (k5.out _) | with_reducible exact quiet_ret (k6.out _) | with_reducible exact quiet_ret (s1.out _ _) | with_reducible exact quiet_ret (s2.out _ _)) | quiet_step (first | with_reducible exact quiet_ret (k5.out _) | with_reducible exact quiet_ret (k6.out _) | with_reducible exact quiet_ret (s1.out _ _) | with_reducible exact quiet_ret (s2.out _ _)))
 refine wpQuiet_nil ?_
 intro _ hw'
 obtain ⟨⟨dq, osq⟩, hw''⟩ := hw'
 subst hw''
 have E9 := hide ((E2.out.trans EE.out).trans (ext_regrown w7 dq osq))
 go_wp2_with fail
 go_ret
 exact ⟨rfl, E9.out⟩
end
section
open Go Go.RowKit
def TmRet (r : List Int × Int × Int) (W : World) (e : Ending) (w' : World) : Prop := ∃ v, e = .returned (.tuple #[v, .int .i64 r.2.1, .int .i64 r.2.2]) ∧ OwnT W.heap.size w' v r.1 ∧ Ext W w'
theorem TmRet.parts {r : List Int × Int × Int} {W : World} {e : Ending} {w' : World} (h : TmRet r W e w') : ∃ A cap, e = .returned (.tuple #[.slice A r.1.length cap, .int .i64 r.2.1, .int .i64 r.2.2]) ∧ r.1.length ≤ cap ∧ cap ≤ 9223372036854775807 ∧ OwnT W.heap.size w' (.slice A r.1.length cap) r.1 ∧ TimesAt w' A r.1 ∧ Ext W w' := by
 obtain ⟨v, rfl, hO, hE⟩ := h
 obtain ⟨A, cap, rfl, h1, h2, h3⟩ := hO.at_
 exact ⟨A, cap, rfl, h1, h2, hO, h3, hE⟩
end
section
open Go Go.RowKit
def TimesPost (N B b : Nat) (W : World) (e : Ending) (w' : World) : Prop := ∃ A n cap l, e = .returned (.slice A n cap) ∧ l.length = n ∧ n ≤ N ∧ n ≤ cap ∧ cap ≤ 9223372036854775807 ∧ incB l = true ∧ OwnT W.heap.size w' (.slice A n cap) l ∧ TapeOk B w' b ∧ Upd b W w'
theorem shr_le {u q k : Nat} (hu : u < 18446744073709551616) (h : k ≤ q) : u >>> q ≤ 18446744073709551615 / 2 ^ k := by
 rw [Nat.shiftRight_eq_div_pow]
 exact Nat.le_trans (Nat.div_le_div_left (Nat.pow_le_pow_right (by omega) h) (Nat.two_pow_pos k)) (Nat.div_le_div_right (by omega))
theorem incB_init {l : List Int} {x : Int} (h : incB (l ++ [x]) = true) : incB l = true := by
 rw [incB_iff] at h ⊢
 intro i hi
 have := h i (by simp; omega)
 rwa [getD_appL [x] (by omega), getD_appL [x] (by omega)] at this
set_option maxHeartbeats 6400000 in
set_option maxRecDepth 100000 in
theorem t_times (N B b : Nat) (hN : N ≤ 1000) (W : World) (hT : TapeOk B W b) : Calls Try.prog 43 #[.pointer (some ⟨b, 0, none⟩), .int .i64 (N : Int)] W (TimesPost N B b W) := by
 have hbW := hT.2.1
 have i5 : I64 5 := ⟨by omega, by omega⟩
 have i50 : I64 50 := ⟨by omega, by omega⟩
 have i9 : I64 9 := ⟨by omega, by omega⟩
 have i3 : I64 3 := ⟨by omega, by omega⟩
 have i56 : I64 56 := ⟨by omega, by omega⟩
 have i8 : I64 8 := ⟨by omega, by omega⟩
 have iN : I64 ((N : Int) + 1) := ⟨by omega, by omega⟩
 have HT := hide hT
 clear hT
 go_enter Try.func43, Try.ntmps43
 go_upto_region 3 with (go_at_call 12; (with_reducible refine (t_next B b 5 _ i5 HT.out).mono ?_); rintro e w1 ⟨s, rfl, hs, T1, u1⟩; obtain ⟨kd, rfl⟩ := Int.eq_ofNat_of_zero_le hs.1; have hkd : kd < 5 := (by have := hs.2.1 (by omega); omega); have T1 := hide T1; have U1 := hide u1; clear hs u1)
 go_upto_region 4 with (go_at_call 26; (with_reducible refine (t_int B b W _ T1.out U1.out).mono ?_); rintro e w2 ⟨at0, rfl, ha, T2, u2⟩; have T2 := hide T2; have U2 := hide u2; clear u2 T1 U1)
 go_upto_region 5 with (go_at_call 12; (with_reducible refine (t_next B b 50 _ i50 T2.out).mono ?_); rintro e w3 ⟨s, rfl, hs, T3, u3⟩; obtain ⟨s0, rfl⟩ := Int.eq_ofNat_of_zero_le hs.1; have hs0 : s0 < 50 := (by have := hs.2.1 (by omega); omega); obtain ⟨st, hst⟩ : ∃ st, 1 + s0 = st := ⟨_, rfl⟩; have es : IntKind.u64.wrap ((1 : Int) + (s0 : Int)) = (st : Int) := (by rw [wrap_u64']; omega); have T3 := hide T3; have U3 := hide (U2.out.trans u3); clear hs u3 T2 U2)
 have hst1 : 1 ≤ st := by omega
 have hst2 : st ≤ 50 := by omega
 clear hst es
 go_upto_region 6 with (go_at_call 12; (with_reducible refine (t_next B b ((N : Int) + 1) _ iN T3.out).mono ?_); rintro e w4 ⟨s, rfl, hs, T4, u4⟩; obtain ⟨i0, rfl⟩ := Int.eq_ofNat_of_zero_le hs.1; have hi0 : i0 ≤ N := (by have := hs.2.1 (by omega); omega); have T4 := hide T4; have U4 := hide (U3.out.trans u4); clear hs u4 T3 U3)
 have HA0 := hide ha
 clear ha HT
 go_wp2_with fail
 go_loopw [5, 7, 9] (fun lv av iv wr => ∃ (i : Nat) (a : Int) (ll : List Int), iv = .int .i64 (i : Int) ∧ av = .int .i64 a ∧ ll.length + i ≤ N ∧ Hid (I64 a) ∧ Hid (incB (ll ++ [a]) = true) ∧ Hid (OwnT W.heap.size wr lv ll) ∧ Hid (TapeOk B wr b) ∧ Hid (Upd b W wr)) (fun _ _ iv _ => (intOf iv).toNat)
 case atStart => exact ⟨i0, at0, [], rfl, rfl, by simp; omega, HA0, hide (by simp [incB]), hide (OwnT.nil_ _ _), T4, U4⟩
 case round =>
   clear T4 U4 HA0
   obtain ⟨i, a, ll, rfl, rfl, hli, HA, HI, HO, HT, HU⟩ := hrel
   by_cases h0 : 0 < i
   · have d0 : decide ((0 : Int) < (i : Int)) = true := decide_eq_true (by omega)
     have O5 := hide (HO.out.alloc (.cells #[Value.int .i64 a] 2))
     have hone := hide (one_atT wr a HA.out _ rfl)
     have T5 := hide (HT.out.alloc (.cells #[Value.int .i64 a] 2))
     have U5 := hide (HU.out.trans (Ext.upd (ext_alloc wr (.cells #[Value.int .i64 a] 2)) b))
     have hsz : W.heap.size ≤ (wr.alloc (.cells #[Value.int .i64 a] 2)).heap.size := U5.out.2.2.2.1
     have hle5 : ll.length + [a].length ≤ 17592186044416 := (by simp; omega)
     clear HO HT HU
     go_upto_region 9 with (at_builtin; refine wl_appendT rfl (.tmp 27) (.tmp 29) rfl W.heap.size _ ll [a] rfl O5.out _ 1 1 rfl hone.out rfl hle5 hsz ?_; intro v6 w6 hO6 hG6 hA6; have hG := O5.out.1.lt; have O6 := hide hO6; have T6 := hide (T5.out.below (grown_below hG6 (b + 1) (by omega) (fun k hk => by have := (hG k hk).1; omega))); have U6 := hide (upd_grown U5.out hG6 (fun k hk => (hG k hk).1)); clear hO6 hG6 hA6 hG O5 T5 U5 hone hsz)
     have hal := HA.out
     unfold I64 at hal
     obtain ⟨mm, hmm⟩ : ∃ mm : Nat, (9223372036854775807 : Int) - a = (mm : Int) := ⟨(9223372036854775807 - a).toNat, by omega⟩
     have em : IntKind.u64.wrap (9223372036854775807 - IntKind.u64.wrap a) = (mm : Int) := by rw [wrap_u64', wrap_u64']; omega
     have KE : Hid (∀ d : Nat, d ≤ mm → wrap64 (IntKind.u64.wrap (IntKind.u64.wrap a + (d : Int))) = a + (d : Int)) := hide (fun d hd => by rw [wrap_u64', wrap_u64']; simp only [wrap64]; omega)
     have KI : Hid (∀ d : Nat, 1 ≤ d → d ≤ mm → I64 (a + (d : Int)) ∧ incB (ll ++ [a] ++ [a + (d : Int)]) = true) := hide (fun d h1 h2 => ⟨⟨by omega, by omega⟩, incB_snoc (i := ll.length) HI.out (by simp) (by rw [getD_end]; omega)⟩)
     have hl2 : (ll ++ [a]).length = ll.length + 1 := by simp
     clear hal hmm hle5
     obtain rfl | rfl | rfl | rfl | rfl : kd = 0 ∨ kd = 1 ∨ kd = 2 ∨ kd = 3 ∨ kd = 4 := by omega
     · go_upto_region 20 with fail
       by_cases hcm : mm < st
       · have dm : decide ((mm : Int) < (st : Int)) = true := decide_eq_true (by omega)
         have dm2 : decide (mm < st) = true := decide_eq_true hcm
         go_wp2_with fail
         go_ret
         obtain ⟨A, cap, hv, h1, h2, h3⟩ := O6.out.at_
         have hO := O6.out
         subst hv
         exact ⟨A, _, cap, ll ++ [a], rfl, rfl, by omega, h1, h2, HI.out, hO, T6.out, U6.out⟩
       · have dm : decide ((mm : Int) < (st : Int)) = false := decide_eq_false (by omega)
         have dm2 : decide (mm < st) = false := decide_eq_false hcm
         have ea := KE.out (st) (by omega)
         obtain ⟨ki, kj⟩ := KI.out (st) (by omega) (by omega)
         obtain ⟨y, hy⟩ : ∃ y, a + ((st : Nat) : Int) = y := ⟨_, rfl⟩
         rw [hy] at ea ki kj
         have ki := hide ki
         have kj := hide kj
         clear hy
         go_wp2_with fail
         go_roundw
         case rel => exact ⟨i - 1, y, ll ++ [a], by go_num, by go_num, by omega, ki, kj, O6, T6, U6⟩
         case measure => simp [intOf]; omega
     · go_upto_region 20 with (go_at_call 12; (with_reducible refine (t_next B b 9 _ i9 T6.out).mono ?_); rintro e w7 ⟨s, rfl, hs, T7, u7⟩; obtain ⟨x, rfl⟩ := Int.eq_ofNat_of_zero_le hs.1; have hx : x < 9 := (by have := hs.2.1 (by omega); omega); obtain ⟨d, hd⟩ : ∃ d, 1 + x = d := ⟨_, rfl⟩; have e1 : IntKind.u64.wrap ((1 : Int) + (x : Int)) = (d : Int) := (by rw [wrap_u64']; omega); have T7 := hide T7; have U7 := hide (U6.out.trans u7); have O7 := hide (O6.out.upd u7 hbW); clear hs u7 T6 U6 O6)
       have hd1 : 1 ≤ d := by omega
       clear e1 hd
       by_cases hcm : mm < d
       · have dm : decide ((mm : Int) < (d : Int)) = true := decide_eq_true (by omega)
         have dm2 : decide (mm < d) = true := decide_eq_true hcm
         go_wp2_with fail
         go_ret
         obtain ⟨A, cap, hv, h1, h2, h3⟩ := O7.out.at_
         have hO := O7.out
         subst hv
         exact ⟨A, _, cap, ll ++ [a], rfl, rfl, by omega, h1, h2, HI.out, hO, T7.out, U7.out⟩
       · have dm : decide ((mm : Int) < (d : Int)) = false := decide_eq_false (by omega)
         have dm2 : decide (mm < d) = false := decide_eq_false hcm
         have ea := KE.out (d) (by omega)
         obtain ⟨ki, kj⟩ := KI.out (d) (by omega) (by omega)
         obtain ⟨y, hy⟩ : ∃ y, a + ((d : Nat) : Int) = y := ⟨_, rfl⟩
         rw [hy] at ea ki kj
         have ki := hide ki
         have kj := hide kj
         clear hy
         go_wp2_with fail
         go_roundw
         case rel => (repeat apply Exists.intro); exact ⟨⟨i - 1, y, ll ++ [a], by go_num, by go_num, by omega, ki, kj, O7, T7, U7⟩, rfl⟩
         case measure => simp [intOf]; omega
     · go_upto_region 20 with (go_at_call 12; (with_reducible refine (t_next B b 3 _ i3 T6.out).mono ?_); rintro e w7 ⟨s, rfl, hs, T7, u7⟩; obtain ⟨x, rfl⟩ := Int.eq_ofNat_of_zero_le hs.1; have hx : x < 3 := (by have := hs.2.1 (by omega); omega); have e0 : IntKind.u64.wrap (x : Int) = (x : Int) := (by rw [wrap_u64']; omega); obtain ⟨d, hd⟩ : ∃ d, st + x = d := ⟨_, rfl⟩; have e1 : IntKind.u64.wrap ((st : Int) + (x : Int)) = (d : Int) := (by rw [wrap_u64']; omega); have T7 := hide T7; have U7 := hide (U6.out.trans u7); have O7 := hide (O6.out.upd u7 hbW); clear hs u7 T6 U6 O6)
       have hd1 : 1 ≤ d := by omega
       clear e0 e1 hd
       by_cases hcm : mm < d
       · have dm : decide ((mm : Int) < (d : Int)) = true := decide_eq_true (by omega)
         have dm2 : decide (mm < d) = true := decide_eq_true hcm
         go_wp2_with fail
         go_ret
         obtain ⟨A, cap, hv, h1, h2, h3⟩ := O7.out.at_
         have hO := O7.out
         subst hv
         exact ⟨A, _, cap, ll ++ [a], rfl, rfl, by omega, h1, h2, HI.out, hO, T7.out, U7.out⟩
       · have dm : decide ((mm : Int) < (d : Int)) = false := decide_eq_false (by omega)
         have dm2 : decide (mm < d) = false := decide_eq_false hcm
         have ea := KE.out (d) (by omega)
         obtain ⟨ki, kj⟩ := KI.out (d) (by omega) (by omega)
         obtain ⟨y, hy⟩ : ∃ y, a + ((d : Nat) : Int) = y := ⟨_, rfl⟩
         rw [hy] at ea ki kj
         have ki := hide ki
         have kj := hide kj
         clear hy
         go_wp2_with fail
         go_roundw
         case rel => (repeat apply Exists.intro); exact ⟨⟨i - 1, y, ll ++ [a], by go_num, by go_num, by omega, ki, kj, O7, T7, U7⟩, rfl⟩
         case measure => simp [intOf]; omega
     · go_upto_region 20 with (first | (go_at_call 35; (with_reducible refine (t_word B b _ T6.out).mono ?_); rintro e w7 ⟨u, rfl, hu, T7, u7⟩; obtain ⟨xw, rfl⟩ := Int.eq_ofNat_of_zero_le hu.1; have hxw : xw < 18446744073709551616 := (by have := hu.2; omega); have T7 := hide T7; have U7 := hide (U6.out.trans u7); have O7 := hide (O6.out.upd u7 hbW); clear hu u7 T6 U6 O6) | (go_at_call 12; (with_reducible refine (t_next B b 56 _ i56 T7.out).mono ?_); rintro e w8 ⟨s, rfl, hs, T8, u8⟩; obtain ⟨x, rfl⟩ := Int.eq_ofNat_of_zero_le hs.1; have hx : x < 56 := (by have := hs.2.1 (by omega); omega); obtain ⟨q, hq⟩ : ∃ q : Nat, 4 + x = q := ⟨_, rfl⟩; have eq1 : (4 : Int) + (x : Int) = (q : Int) := (by omega); have hr := shr_le (q := q) (k := 4) hxw (by omega); have e1 := shr_cast xw q; obtain ⟨r, hrr⟩ : ∃ r, xw >>> q = r := ⟨_, rfl⟩; rw [hrr] at e1 hr; have hr2 : r ≤ 9223372036854775807 := (Nat.le_trans hr (by decide)); obtain ⟨d, hd⟩ : ∃ d, 1 + r = d := ⟨_, rfl⟩; have e2 : IntKind.u64.wrap ((1 : Int) + (r : Int)) = (d : Int) := (by rw [wrap_u64']; omega); have hq2 : q ≤ 64 := (by omega); clear hq hr hrr; have T8 := hide T8; have U8 := hide (U7.out.trans u8); have O8 := hide (O7.out.upd u8 hbW); clear hs u8 T7 U7 O7))
       have hd1 : 1 ≤ d := by omega
       clear e1 e2 eq1 hd
       by_cases hcm : mm < d
       · have dm : decide ((mm : Int) < (d : Int)) = true := decide_eq_true (by omega)
         have dm2 : decide (mm < d) = true := decide_eq_true hcm
         go_wp2_with fail
         go_ret
         obtain ⟨A, cap, hv, h1, h2, h3⟩ := O8.out.at_
         have hO := O8.out
         subst hv
         exact ⟨A, _, cap, ll ++ [a], rfl, rfl, by omega, h1, h2, HI.out, hO, T8.out, U8.out⟩
       · have dm : decide ((mm : Int) < (d : Int)) = false := decide_eq_false (by omega)
         have dm2 : decide (mm < d) = false := decide_eq_false hcm
         have ea := KE.out (d) (by omega)
         obtain ⟨ki, kj⟩ := KI.out (d) (by omega) (by omega)
         obtain ⟨y, hy⟩ : ∃ y, a + ((d : Nat) : Int) = y := ⟨_, rfl⟩
         rw [hy] at ea ki kj
         have ki := hide ki
         have kj := hide kj
         clear hy
         go_wp2_with fail
         go_roundw
         case rel => (repeat apply Exists.intro); exact ⟨⟨i - 1, y, ll ++ [a], by go_num, by go_num, by omega, ki, kj, O8, T8, U8⟩, rfl⟩
         case measure => simp [intOf]; omega
     · go_upto_if 59 with (go_at_call 44; (with_reducible refine (t_bool B b 4 _ _ (by omega) (by omega) T6.out (Upd.refl _ _)).mono ?_); rintro e w7 ⟨v, rfl, T7, u7⟩; have T7 := hide T7; have U7 := hide (U6.out.trans u7); have O7 := hide (O6.out.upd u7 hbW); clear u7 T6 U6 O6)
       cases v with
       | false =>
         go_upto_region 20 with fail
         by_cases hcm : mm < st
         · have dm : decide ((mm : Int) < (st : Int)) = true := decide_eq_true (by omega)
           have dm2 : decide (mm < st) = true := decide_eq_true hcm
           go_wp2_with fail
           go_ret
           obtain ⟨A, cap, hv, h1, h2, h3⟩ := O7.out.at_
           have hO := O7.out
           subst hv
           exact ⟨A, _, cap, ll ++ [a], rfl, rfl, by omega, h1, h2, HI.out, hO, T7.out, U7.out⟩
         · have dm : decide ((mm : Int) < (st : Int)) = false := decide_eq_false (by omega)
           have dm2 : decide (mm < st) = false := decide_eq_false hcm
           have ea := KE.out (st) (by omega)
           obtain ⟨ki, kj⟩ := KI.out (st) (by omega) (by omega)
           obtain ⟨y, hy⟩ : ∃ y, a + ((st : Nat) : Int) = y := ⟨_, rfl⟩
           rw [hy] at ea ki kj
           have ki := hide ki
           have kj := hide kj
           clear hy
           go_wp2_with fail
           go_roundw
           case rel => (repeat apply Exists.intro); exact ⟨⟨i - 1, y, ll ++ [a], by go_num, by go_num, by omega, ki, kj, O7, T7, U7⟩, rfl⟩
           case measure => simp [intOf]; omega
       | true =>
         go_upto_region 20 with (first | (go_at_call 35; (with_reducible refine (t_word B b _ T7.out).mono ?_); rintro e w8 ⟨u, rfl, hu, T8, u8⟩; obtain ⟨xw, rfl⟩ := Int.eq_ofNat_of_zero_le hu.1; have hxw : xw < 18446744073709551616 := (by have := hu.2; omega); have T8 := hide T8; have U8 := hide (U7.out.trans u8); have O8 := hide (O7.out.upd u8 hbW); clear hu u8 T7 U7 O7) | (go_at_call 12; (with_reducible refine (t_next B b 8 _ i8 T8.out).mono ?_); rintro e w9 ⟨s, rfl, hs, T9, u9⟩; obtain ⟨x, rfl⟩ := Int.eq_ofNat_of_zero_le hs.1; have hx : x < 8 := (by have := hs.2.1 (by omega); omega); obtain ⟨q, hq⟩ : ∃ q : Nat, 1 + x = q := ⟨_, rfl⟩; have eq1 : (1 : Int) + (x : Int) = (q : Int) := (by omega); have hr := shr_le (q := q) (k := 1) hxw (by omega); have e1 := shr_cast xw q; obtain ⟨r, hrr⟩ : ∃ r, xw >>> q = r := ⟨_, rfl⟩; rw [hrr] at e1 hr; have hr2 : r ≤ 9223372036854775807 := (Nat.le_trans hr (by decide)); obtain ⟨d, hd⟩ : ∃ d, 1 + r = d := ⟨_, rfl⟩; have e2 : IntKind.u64.wrap ((1 : Int) + (r : Int)) = (d : Int) := (by rw [wrap_u64']; omega); have hq2 : q ≤ 64 := (by omega); clear hq hr hrr; have T9 := hide T9; have U9 := hide (U8.out.trans u9); have O9 := hide (O8.out.upd u9 hbW); clear hs u9 T8 U8 O8))
         have hd1 : 1 ≤ d := by omega
         clear e1 e2 eq1 hd
         by_cases hcm : mm < d
         · have dm : decide ((mm : Int) < (d : Int)) = true := decide_eq_true (by omega)
           have dm2 : decide (mm < d) = true := decide_eq_true hcm
           go_wp2_with fail
           go_ret
           obtain ⟨A, cap, hv, h1, h2, h3⟩ := O9.out.at_
           have hO := O9.out
           subst hv
           exact ⟨A, _, cap, ll ++ [a], rfl, rfl, by omega, h1, h2, HI.out, hO, T9.out, U9.out⟩
         · have dm : decide ((mm : Int) < (d : Int)) = false := decide_eq_false (by omega)
           have dm2 : decide (mm < d) = false := decide_eq_false hcm
           have ea := KE.out (d) (by omega)
           obtain ⟨ki, kj⟩ := KI.out (d) (by omega) (by omega)
           obtain ⟨y, hy⟩ : ∃ y, a + ((d : Nat) : Int) = y := ⟨_, rfl⟩
           rw [hy] at ea ki kj
           have ki := hide ki
           have kj := hide kj
           clear hy
           go_wp2_with fail
           go_roundw
           case rel => (repeat apply Exists.intro); exact ⟨⟨i - 1, y, ll ++ [a], by go_num, by go_num, by omega, ki, kj, O9, T9, U9⟩, rfl⟩
           case measure => simp [intOf]; omega
   · have d0 : decide ((0 : Int) < (i : Int)) = false := decide_eq_false (by omega)
     go_wp2_with fail
     go_ret
     obtain ⟨A, cap, hv, h1, h2, h3⟩ := HO.out.at_
     have hO := HO.out
     subst hv
     exact ⟨A, _, cap, ll, rfl, rfl, by omega, h1, h2, incB_init HI.out, hO, HT.out, HU.out⟩
structure Bt (W : World) (B : Nat) (A : Option Addr) (n cap : Nat) (m : List Int) (w : World) : Prop where
 e : Ext W w
 t : TapeOk W.heap.size w W.heap.size
 o : OwnT B w (.slice A n cap) m
 gb : W.heap.size < B
section
variable {W : World} {B : Nat} {A : Option Addr} {n cap : Nat} {m : List Int} {w w' : World}
theorem Bt.ext (s : Bt W B A n cap m w) (k : Ext w w') : Bt W B A n cap m w' := ⟨s.e.trans k, s.t.ext k, s.o.ext k, s.gb⟩
theorem Bt.upd (s : Bt W B A n cap m w) (u : Upd W.heap.size w w') (t : TapeOk W.heap.size w' W.heap.size) : Bt W B A n cap m w' := ⟨Upd.ext u s.e (Nat.le_refl _), t, s.o.upd u s.gb, s.gb⟩
end
end
section
open Go Go.RowKit
theorem wr64 (x : Int) : ∃ p, wrap64 x = p ∧ IntKind.i64.wrap x = p ∧ I64 p := ⟨wrap64 x, rfl, by rw [IntKind.wrap_i64]; simp only [wrap64], i64_wrap x⟩
theorem TimesAt.cell {w : World} {b off : Nat} {l : List Int} (h : TimesAt w (some ⟨b, off, none⟩) l) {j : Nat} (hj : j < l.length) : w.cell? ⟨b, off + j, none⟩ = some (.int .i64 (l.getD j 0)) := by
 obtain ⟨b', off', he, _, hc⟩ := h.2.2 (by omega)
 cases he
 exact hc j hj
def SampsPost (N B b : Nat) (W : World) (e : Ending) (w' : World) : Prop := ∃ A n cap l, e = .returned (.slice A n cap) ∧ l.length = n ∧ n ≤ N ∧ n ≤ cap ∧ cap ≤ 9223372036854775807 ∧ incB (l.map Prod.fst) = true ∧ OwnS W.heap.size w' (.slice A n cap) l ∧ TapeOk B w' b ∧ Upd b W w'
structure Sg (W : World) (B b B1 : Nat) (Am : Option Addr) (n cap : Nat) (m : List Int) (lv : Value) (ll : List (Int × Int)) (w : World) : Prop where
 t : TapeOk B w b
 u : Upd b W w
 s : OwnS B1 w lv ll
 o : OwnT W.heap.size w (.slice Am n cap) m
 bw : B1 ≤ w.heap.size
section
variable {W : World} {B b B1 : Nat} {Am : Option Addr} {n cap : Nat} {m : List Int} {lv : Value} {ll : List (Int × Int)} {w w' : World}
theorem Sg.upd (h : Sg W B b B1 Am n cap m lv ll w) (hb : b < W.heap.size) (hB : W.heap.size ≤ B1) (u : Upd b w w') (t : TapeOk B w' b) : Sg W B b B1 Am n cap m lv ll w' :=
 ⟨t, h.u.trans u, h.s.upd u (Nat.lt_of_lt_of_le hb hB), h.o.upd u hb, Nat.le_trans h.bw u.2.2.2.1⟩
theorem Sg.alloc (h : Sg W B b B1 Am n cap m lv ll w) (o : Obj) : Sg W B b B1 Am n cap m lv ll (w.alloc o) :=
 ⟨h.t.alloc o, h.u.trans (Ext.upd (ext_alloc w o) b), h.s.alloc o, h.o.alloc o, Nat.le_trans h.bw (by simp)⟩
theorem Sg.grow (h : Sg W B b B1 Am n cap m lv ll w) (hb : b < W.heap.size) (hB : W.heap.size ≤ B1) (hq : (Value.slice Am n cap).ownBlock = none ∨ (Value.slice Am n cap).ownBlock ≠ lv.ownBlock) {v' : Value} {l' : List (Int × Int)} (hO : OwnS B1 w' v' l') (hG : w.grownBy w' lv.ownBlock) : Sg W B b B1 Am n cap m v' l' w' :=
 ⟨h.t.below (grown_below hG (b + 1) (Nat.lt_of_lt_of_le hb h.u.2.2.2.1) (fun k hk => by have := (h.s.1.lt k hk).1; omega)), upd_grown h.u hG (fun k hk => Nat.le_trans hB (h.s.1.lt k hk).1), hO, h.o.kept hG hq, Nat.le_trans h.bw (grown_below hG 0 (Nat.zero_le _) (fun _ _ => Nat.zero_le _)).size⟩
end
set_option maxHeartbeats 6400000 in
set_option maxRecDepth 100000 in
theorem t_samples (N B b : Nat) (hN : N ≤ 1000) (W : World) (hT : TapeOk B W b) : Calls Try.prog 34 #[.pointer (some ⟨b, 0, none⟩), .int .i64 (N : Int)] W (SampsPost N B b W) := by
 have hbW := hT.2.1
 have i7 : I64 7 := ⟨by omega, by omega⟩
 have i41 : I64 41 := ⟨by omega, by omega⟩
 have i9 : I64 9 := ⟨by omega, by omega⟩
 have i3 : I64 3 := ⟨by omega, by omega⟩
 have i400 : I64 400 := ⟨by omega, by omega⟩
 have i50 : I64 50 := ⟨by omega, by omega⟩
 have KT := hide (t_times N B b hN W hT)
 clear hT
 go_enter Try.func34, Try.ntmps34
 go_upto_region 2 with (go_at_call 43; (with_reducible refine (KT.out).mono ?_); rintro e w1 ⟨Am, n, cap, m, rfl, hm, hnN, hncap, hncap2, hinc, hO, T1, u1⟩; have T1 := hide T1; have U1 := hide u1; have O1 := hide hO; have Hm := hide hm; have Hinc := hide hinc; clear hO hm hinc u1)
 have hB1 : W.heap.size ≤ w1.heap.size := U1.out.2.2.2.1
 obtain ⟨B1, hBB⟩ : ∃ B1, w1.heap.size = B1 := ⟨_, rfl⟩
 have HQ : Hid (∀ w lv ll, OwnS B1 w lv ll → (Value.slice Am n cap).ownBlock = none ∨ (Value.slice Am n cap).ownBlock ≠ lv.ownBlock) := hide (fun w lv ll ho => by
   cases Am with
   | none => exact Or.inl rfl
   | some a =>
     right
     intro e
     have h1 := O1.out.1.lt a.block rfl
     have h2 := ho.1.lt a.block (by rw [← e]; rfl)
     omega)
 have S1 : Hid (Sg W B b B1 Am n cap m (.slice none 0 0) [] w1) := hide ⟨T1.out, U1.out, OwnS.nil_ _ _, O1.out, by omega⟩
 rw [hBB] at hB1
 clear hBB T1 U1 O1 KT
 go_upto_region 4 with (go_at_call 12; (with_reducible refine (t_next B b 7 _ i7 S1.out.t).mono ?_); rintro e w2 ⟨s, rfl, hs, T2, u2⟩; obtain ⟨kd, rfl⟩ := Int.eq_ofNat_of_zero_le hs.1; have hkd : kd < 7 := (by have := hs.2.1 (by omega); omega); have S2 := hide (S1.out.upd hbW hB1 u2 T2); clear hs u2 T2 S1)
 go_upto_region 5 with (first
   | (go_at_call 26; (with_reducible refine (t_int B b _ _ S2.out.t (Upd.refl _ _)).mono ?_); rintro e w3 ⟨v0, rfl, hv0, T3, u3⟩; have S3 := hide (S2.out.upd hbW hB1 u3 T3); have Hv0 := hide hv0; clear u3 T3 S2 hv0)
   | (go_at_call 12; (with_reducible refine (t_next B b 41 _ i41 S3.out.t).mono ?_); rintro e w4 ⟨s, rfl, hs, T4, u4⟩; have hs0 := hs.1; have hs1 := hs.2.1 (by omega); have S4 := hide (S3.out.upd hbW hB1 u4 T4); obtain ⟨sl, hsl⟩ : ∃ sl, s - 20 = sl := ⟨_, rfl⟩; clear hs u4 T4 S3))
 clear hs0 hs1 hsl
 go_wp2_with fail
 go_loopw [6, 8, 10] (fun lv av iv wr => ∃ (i : Nat) (vv : Int) (ll : List (Int × Int)), i ≤ n ∧ iv = .int .i64 (i : Int) ∧ av = .int .i64 vv ∧ Hid (I64 vv) ∧ Hid (ll.map Prod.fst = m.take i) ∧ Hid (Sg W B b B1 Am n cap m lv ll wr)) (fun _ _ iv _ => n - (intOf iv).toNat)
 case atStart => exact ⟨0, v0, [], by omega, rfl, rfl, Hv0, hide (by simp), S4⟩
 case round =>
   clear S4 Hv0
   obtain ⟨i, vv, ll, hi, rfl, rfl, HV, HL, S5⟩ := hrel
   by_cases h0 : i < n
   · have d0 : decide ((i : Int) < (n : Int)) = true := decide_eq_true (by omega)
     have him : i < m.length := by rw [Hm.out]; exact h0
     obtain ⟨bm, om, rfl, _, _⟩ := (own_times S5.out.o).2.2 (by omega)
     obtain ⟨tt, htt⟩ : ∃ tt, m.getD i 0 = tt := ⟨_, rfl⟩
     have itt : I64 tt := by rw [← htt]; exact S5.out.o.2.get i
     have KC : Hid (∀ w v l', Sg W B b B1 (some ⟨bm, om, none⟩) n cap m v l' w → w.cell? ⟨bm, om + i, none⟩ = some (.int .i64 tt)) := hide (fun w v l' s => by rw [← htt]; exact (own_times s.o).cell him)
     have ix := fun w => idxT bm om n cap i h0 w
     have HL2 : Hid (∀ X, (ll ++ [(tt, X)]).map Prod.fst = m.take (i + 1)) := hide (fun X => by rw [List.map_append, HL.out, takeT_succ him, htt]; rfl)
     have hll : ll.length = i := by
       have := congrArg List.length HL.out
       rw [List.length_map, List.length_take] at this
       omega
     have hle5 : Hid (∀ X : Int, ll.length + [(tt, X)].length ≤ 8796093022208) := hide (fun X => by simp; omega)
     have iv := HV.out
     clear htt him hll HL
     obtain rfl | rfl | rfl | rfl | rfl | rfl | rfl : kd = 0 ∨ kd = 1 ∨ kd = 2 ∨ kd = 3 ∨ kd = 4 ∨ kd = 5 ∨ kd = 6 := by omega
     · go_upto_region 24 with fail
       have ivv := iv
       have Hvv := hide iv
       have S20 := hide (S5.out.alloc (.cells #[.int .i64 tt, .int .i64 vv] 66))
       have ct0 := KC.out _ _ _ S5.out
       have ct := KC.out _ _ _ S20.out
       have hone := hide (one_atS wr tt vv itt ivv)
       have hsz := S20.out.bw
       clear S5
       go_wp2_with (at_builtin; refine wl_appendS rfl (.tmp 81) (.tmp 88) rfl B1 _ ll [(tt, vv)] rfl S20.out.s _ 1 1 rfl hone.out rfl (hle5.out vv) hsz ?_; intro v21 w21 hO21 hG21 hA21; have S21 := hide (S20.out.grow hbW hB1 (HQ.out _ _ _ S20.out.s) hO21 hG21); clear hO21 hG21 hA21)
       go_roundw
       case rel => (repeat apply Exists.intro); exact ⟨⟨i + 1, vv, ll ++ [(tt, vv)], by omega, by go_num, by go_num, Hvv, HL2.out vv, S21⟩, rfl⟩
       case measure => simp [intOf]; omega
     · have Hvv := hide iv
       obtain ⟨p, p1, p2, ip⟩ := wr64 ((i : Int) * sl)
       obtain ⟨X, X1, X2, iX⟩ := wr64 (vv + p)
       go_upto_region 24 with fail
       have S20 := hide (S5.out.alloc (.cells #[.int .i64 tt, .int .i64 X] 66))
       have ct0 := KC.out _ _ _ S5.out
       have ct := KC.out _ _ _ S20.out
       have hone := hide (one_atS wr tt X itt iX)
       have hsz := S20.out.bw
       clear S5
       go_wp2_with (at_builtin; refine wl_appendS rfl (.tmp 81) (.tmp 88) rfl B1 _ ll [(tt, X)] rfl S20.out.s _ 1 1 rfl hone.out rfl (hle5.out X) hsz ?_; intro v21 w21 hO21 hG21 hA21; have S21 := hide (S20.out.grow hbW hB1 (HQ.out _ _ _ S20.out.s) hO21 hG21); clear hO21 hG21 hA21)
       go_roundw
       case rel => (repeat apply Exists.intro); exact ⟨⟨i + 1, vv, ll ++ [(tt, X)], by omega, by go_num, by go_num, Hvv, HL2.out X, S21⟩, rfl⟩
       case measure => simp [intOf]; omega
     · have Hvv := hide iv
       obtain ⟨p, p1, p2, ip⟩ := wr64 ((i : Int) * sl)
       obtain ⟨q, q1, q2, iq⟩ := wr64 (vv + p)
       go_upto_region 24 with (go_at_call 12; (with_reducible refine (t_next B b 7 _ i7 S5.out.t).mono ?_); rintro e w6 ⟨s, rfl, hs, T, u⟩; obtain ⟨y, rfl⟩ := Int.eq_ofNat_of_zero_le hs.1; have hy : y < 7 := (by have := hs.2.1 (by omega); omega); have S6 := hide (S5.out.upd hbW hB1 u T); obtain ⟨X, X1, X2, iX⟩ := wr64 (q + ((y : Int) - 3)); clear hs u T S5)
       have S20 := hide (S6.out.alloc (.cells #[.int .i64 tt, .int .i64 X] 66))
       have ct0 := KC.out _ _ _ S6.out
       have ct := KC.out _ _ _ S20.out
       have hone := hide (one_atS w6 tt X itt iX)
       have hsz := S20.out.bw
       clear S6
       go_wp2_with (at_builtin; refine wl_appendS rfl (.tmp 81) (.tmp 88) rfl B1 _ ll [(tt, X)] rfl S20.out.s _ 1 1 rfl hone.out rfl (hle5.out X) hsz ?_; intro v21 w21 hO21 hG21 hA21; have S21 := hide (S20.out.grow hbW hB1 (HQ.out _ _ _ S20.out.s) hO21 hG21); clear hO21 hG21 hA21)
       go_roundw
       case rel => (repeat apply Exists.intro); exact ⟨⟨i + 1, vv, ll ++ [(tt, X)], by omega, by go_num, by go_num, Hvv, HL2.out X, S21⟩, rfl⟩
       case measure => simp [intOf]; omega
     · have Hvv := hide iv
       go_upto_region 24 with (go_at_call 12; (with_reducible refine (t_next B b 9 _ i9 S5.out.t).mono ?_); rintro e w6 ⟨s, rfl, hs, T, u⟩; obtain ⟨y, rfl⟩ := Int.eq_ofNat_of_zero_le hs.1; have hy : y < 9 := (by have := hs.2.1 (by omega); omega); have S6 := hide (S5.out.upd hbW hB1 u T); obtain ⟨X, X1, X2, iX⟩ := wr64 (vv + ((y : Int) - 4)); clear hs u T S5)
       have S20 := hide (S6.out.alloc (.cells #[.int .i64 tt, .int .i64 X] 66))
       have ct0 := KC.out _ _ _ S6.out
       have ct := KC.out _ _ _ S20.out
       have hone := hide (one_atS w6 tt X itt iX)
       have hsz := S20.out.bw
       clear S6
       go_wp2_with (at_builtin; refine wl_appendS rfl (.tmp 81) (.tmp 88) rfl B1 _ ll [(tt, X)] rfl S20.out.s _ 1 1 rfl hone.out rfl (hle5.out X) hsz ?_; intro v21 w21 hO21 hG21 hA21; have S21 := hide (S20.out.grow hbW hB1 (HQ.out _ _ _ S20.out.s) hO21 hG21); clear hO21 hG21 hA21)
       go_roundw
       case rel => (repeat apply Exists.intro); exact ⟨⟨i + 1, vv, ll ++ [(tt, X)], by omega, by go_num, by go_num, Hvv, HL2.out X, S21⟩, rfl⟩
       case measure => simp [intOf]; omega
     · have Hvv := hide iv
       go_upto_region 24 with (go_at_call 26; (with_reducible refine (t_int B b _ _ S5.out.t (Upd.refl _ _)).mono ?_); rintro e w6 ⟨X, rfl, iX, T, u⟩; have S6 := hide (S5.out.upd hbW hB1 u T); clear u T S5)
       have S20 := hide (S6.out.alloc (.cells #[.int .i64 tt, .int .i64 X] 66))
       have ct0 := KC.out _ _ _ S6.out
       have ct := KC.out _ _ _ S20.out
       have hone := hide (one_atS w6 tt X itt iX)
       have hsz := S20.out.bw
       clear S6
       go_wp2_with (at_builtin; refine wl_appendS rfl (.tmp 81) (.tmp 88) rfl B1 _ ll [(tt, X)] rfl S20.out.s _ 1 1 rfl hone.out rfl (hle5.out X) hsz ?_; intro v21 w21 hO21 hG21 hA21; have S21 := hide (S20.out.grow hbW hB1 (HQ.out _ _ _ S20.out.s) hO21 hG21); clear hO21 hG21 hA21)
       go_roundw
       case rel => (repeat apply Exists.intro); exact ⟨⟨i + 1, vv, ll ++ [(tt, X)], by omega, by go_num, by go_num, Hvv, HL2.out X, S21⟩, rfl⟩
       case measure => simp [intOf]; omega
     · go_upto_if 62 with (go_at_call 44; (with_reducible refine (t_boolN B b 5 _ _ (by omega) (by omega) S5.out.t (Upd.refl _ _)).mono ?_); rintro e w6 ⟨v, rfl, T, u⟩; have S6 := hide (S5.out.upd hbW hB1 u T); clear u T S5)
       cases v with
       | false =>
         have Hvv := hide iv
         go_upto_region 24 with (go_at_call 12; (with_reducible refine (t_next B b 3 _ i3 S6.out.t).mono ?_); rintro e w7 ⟨s, rfl, hs, T, u⟩; obtain ⟨z, rfl⟩ := Int.eq_ofNat_of_zero_le hs.1; have hz : z < 3 := (by have := hs.2.1 (by omega); omega); have S7 := hide (S6.out.upd hbW hB1 u T); obtain ⟨X, X1, X2, iX⟩ := wr64 (vv + (z : Int)); clear hs u T S6)
         have S20 := hide (S7.out.alloc (.cells #[.int .i64 tt, .int .i64 X] 66))
         have ct0 := KC.out _ _ _ S7.out
         have ct := KC.out _ _ _ S20.out
         have hone := hide (one_atS w7 tt X itt iX)
         have hsz := S20.out.bw
         clear S7
         go_wp2_with (at_builtin; refine wl_appendS rfl (.tmp 81) (.tmp 88) rfl B1 _ ll [(tt, X)] rfl S20.out.s _ 1 1 rfl hone.out rfl (hle5.out X) hsz ?_; intro v21 w21 hO21 hG21 hA21; have S21 := hide (S20.out.grow hbW hB1 (HQ.out _ _ _ S20.out.s) hO21 hG21); clear hO21 hG21 hA21)
         go_roundw
         case rel => (repeat apply Exists.intro); exact ⟨⟨i + 1, vv, ll ++ [(tt, X)], by omega, by go_num, by go_num, Hvv, HL2.out X, S21⟩, rfl⟩
         case measure => simp [intOf]; omega
       | true =>
         go_upto_region 24 with (first | (go_at_call 12; (with_reducible refine (t_next B b 400 _ i400 S6.out.t).mono ?_); rintro e w7 ⟨s, rfl, hs, T, u⟩; obtain ⟨y, rfl⟩ := Int.eq_ofNat_of_zero_le hs.1; have hy : y < 400 := (by have := hs.2.1 (by omega); omega); have S7 := hide (S6.out.upd hbW hB1 u T); obtain ⟨V2, V1, W2, iV2⟩ := wr64 (vv + ((y : Int) - 200)); have HV2 := hide iV2; clear hs u T S6) | (go_at_call 12; (with_reducible refine (t_next B b 3 _ i3 S7.out.t).mono ?_); rintro e w8 ⟨s, rfl, hs, T, u⟩; obtain ⟨z, rfl⟩ := Int.eq_ofNat_of_zero_le hs.1; have hz : z < 3 := (by have := hs.2.1 (by omega); omega); have S8 := hide (S7.out.upd hbW hB1 u T); obtain ⟨X, X1, X2, iX⟩ := wr64 (V2 + (z : Int)); clear hs u T S7))
         have S20 := hide (S8.out.alloc (.cells #[.int .i64 tt, .int .i64 X] 66))
         have ct0 := KC.out _ _ _ S8.out
         have ct := KC.out _ _ _ S20.out
         have hone := hide (one_atS w8 tt X itt iX)
         have hsz := S20.out.bw
         clear S8
         go_wp2_with (at_builtin; refine wl_appendS rfl (.tmp 81) (.tmp 88) rfl B1 _ ll [(tt, X)] rfl S20.out.s _ 1 1 rfl hone.out rfl (hle5.out X) hsz ?_; intro v21 w21 hO21 hG21 hA21; have S21 := hide (S20.out.grow hbW hB1 (HQ.out _ _ _ S20.out.s) hO21 hG21); clear hO21 hG21 hA21)
         go_roundw
         case rel => (repeat apply Exists.intro); exact ⟨⟨i + 1, V2, ll ++ [(tt, X)], by omega, by go_num, by go_num, HV2, HL2.out X, S21⟩, rfl⟩
         case measure => simp [intOf]; omega
     · have Hvv := hide iv
       go_upto_region 24 with (first | (go_at_call 12; (with_reducible refine (t_next B b 50 _ i50 S5.out.t).mono ?_); rintro e w6 ⟨s, rfl, hs, T, u⟩; obtain ⟨y, rfl⟩ := Int.eq_ofNat_of_zero_le hs.1; have hy : y < 50 := (by have := hs.2.1 (by omega); omega); have S6 := hide (S5.out.upd hbW hB1 u T); clear hs u T S5) | (go_at_call 12; (with_reducible refine (t_next B b 50 _ i50 S6.out.t).mono ?_); rintro e w7 ⟨s, rfl, hs, T, u⟩; obtain ⟨z, rfl⟩ := Int.eq_ofNat_of_zero_le hs.1; have hz : z < 50 := (by have := hs.2.1 (by omega); omega); have S7 := hide (S6.out.upd hbW hB1 u T); obtain ⟨P, P1, P2, iP⟩ := wr64 ((y : Int) * (z : Int)); obtain ⟨X, X1, X2, iX⟩ := wr64 (P * sl); clear hs u T S6))
       have S20 := hide (S7.out.alloc (.cells #[.int .i64 tt, .int .i64 X] 66))
       have ct0 := KC.out _ _ _ S7.out
       have ct := KC.out _ _ _ S20.out
       have hone := hide (one_atS w7 tt X itt iX)
       have hsz := S20.out.bw
       clear S7
       go_wp2_with (at_builtin; refine wl_appendS rfl (.tmp 81) (.tmp 88) rfl B1 _ ll [(tt, X)] rfl S20.out.s _ 1 1 rfl hone.out rfl (hle5.out X) hsz ?_; intro v21 w21 hO21 hG21 hA21; have S21 := hide (S20.out.grow hbW hB1 (HQ.out _ _ _ S20.out.s) hO21 hG21); clear hO21 hG21 hA21)
       go_roundw
       case rel => (repeat apply Exists.intro); exact ⟨⟨i + 1, vv, ll ++ [(tt, X)], by omega, by go_num, by go_num, Hvv, HL2.out X, S21⟩, rfl⟩
       case measure => simp [intOf]; omega
   · obtain rfl : i = n := by omega
     have d0 : decide ((i : Int) < (i : Int)) = false := decide_eq_false (by omega)
     go_wp2_with fail
     go_ret
     have hL := HL.out
     rw [List.take_of_length_le (by have := Hm.out; omega)] at hL
     obtain ⟨A, c, hv, h1, h2, h3⟩ := S5.out.s.at_
     have hO := S5.out.s
     subst hv
     have hll : ll.length = i := by rw [← Hm.out, ← hL, List.length_map]
     exact ⟨A, _, c, ll, rfl, rfl, by omega, h1, h2, by rw [hL]; exact Hinc.out, hO.less hB1, S5.out.t, S5.out.u⟩
end
section
open Go Go.RowKit
def ValsPost (N B b : Nat) (W : World) (e : Ending) (w' : World) : Prop := ∃ A n cap l, e = .returned (.slice A n cap) ∧ l.length = n ∧ n ≤ N ∧ n ≤ cap ∧ cap ≤ 9223372036854775807 ∧ OwnT W.heap.size w' (.slice A n cap) l ∧ TapeOk B w' b ∧ Upd b W w'
set_option maxHeartbeats 3200000 in
set_option maxRecDepth 100000 in
theorem t_values (N B b : Nat) (hN : N ≤ 1000) (W : World) (hT : TapeOk B W b) : Calls Try.prog 15 #[.pointer (some ⟨b, 0, none⟩), .int .i64 (N : Int)] W (ValsPost N B b W) := by
 have KT := hide (t_samples N B b hN W hT)
 have hbW := hT.2.1
 clear hT
 go_enter Try.func15, Try.ntmps15
 go_upto_region 2 with (go_at_call 34; (with_reducible refine (KT.out).mono ?_); rintro e w1 ⟨Am, n, cap, m, rfl, hm, hnN, hncap, hncap2, -, hO, T1, u1⟩; have T1 := hide T1; have U1 := hide u1; have M1 := hide (own_samps hO); have Hm := hide hm; clear hO hm u1)
 have hB1 : W.heap.size ≤ w1.heap.size := U1.out.2.2.2.1
 have E1 : Hid (Ext w1 w1) := Ext.refl _
 have Hs := hide M1.out.1
 clear KT
 go_wp2_with fail
 go_loopw [6, 7] (fun lv iv wr => ∃ i : Nat, i ≤ n ∧ iv = .int .i64 (i : Int) ∧ Hid (OwnT w1.heap.size wr lv ((m.map Prod.snd).take i)) ∧ Hid (Ext w1 wr)) (fun _ iv _ => n - (intOf iv).toNat)
 case atStart => exact ⟨0, by omega, rfl, hide (OwnT.nil_ _ _), E1⟩
 case round =>
   clear E1
   obtain ⟨i, hi, rfl, HO, HE⟩ := hrel
   by_cases hlt : i < n
   · have d0 : decide ((i : Int) < (n : Int)) = true := decide_eq_true (by omega)
     have him : i < m.length := by rw [Hm.out]; exact hlt
     obtain ⟨bm, om, rfl, _, hc⟩ := (M1.out.ext HE.out).2.2 (by omega)
     have ct := (hc i him).2
     rw [← Nat.add_assoc] at ct
     have ix := fun w => idxS bm om n cap i hlt w
     have hst := takeT_succ (l := m.map Prod.snd) (k := i) (by rw [List.length_map]; exact him)
     have hget : (m.map Prod.snd).getD i 0 = (m.getD i (0, 0)).2 := by simp [List.getD_eq_getElem?_getD, him]
     have hx := (Hs.out.get i).2
     obtain ⟨x, hxx⟩ : ∃ x, (m.getD i (0, 0)).2 = x := ⟨_, rfl⟩
     rw [hxx] at ct hx hget
     rw [hget] at hst
     have hle : ((m.map Prod.snd).take i).length + [x].length ≤ 17592186044416 := by rw [List.length_take, List.length_map, Hm.out]; simp; omega
     have Hst := hide hst
     have O3 := hide (HO.out.alloc (.cells #[Value.int .i64 x] 2))
     have hone := hide (one_atT wr x hx _ rfl)
     have E3 := hide (Ext.trans HE.out (ext_alloc wr (.cells #[Value.int .i64 x] 2)))
     obtain ⟨T, hT⟩ : ∃ T, (m.map Prod.snd).take i = T := ⟨_, rfl⟩
     rw [hT] at O3 Hst hle
     clear hc him hst hget hxx hT HO HE
     go_wp2_with (at_builtin; refine wl_appendT rfl (.tmp 17) (.tmp 23) rfl w1.heap.size _ T [x] rfl O3.out _ 1 1 rfl hone.out rfl hle E3.out.size ?_; intro v6 w6 hO6 hG6 hA6)
     have O6 : Hid (OwnT w1.heap.size w6 v6 ((m.map Prod.snd).take (i + 1))) := by show OwnT _ _ _ _; rw [Hst.out]; exact hO6
     have E6 := hide (below_grownT E3.out (Nat.le_refl _) O3.out hG6)
     clear hO6 hG6 hA6 O3 E3
     go_roundw
     case rel => exact ⟨i + 1, by omega, by go_num, O6, E6⟩
     case measure => simp [intOf]; omega
   · obtain rfl : i = n := by omega
     have d0 : decide ((i : Int) < (i : Int)) = false := decide_eq_false (by omega)
     go_wp2_with fail
     go_ret
     have hO := HO.out
     rw [List.take_of_length_le (by rw [List.length_map, Hm.out]; omega)] at hO
     obtain ⟨A, c, hv, h1, h2, h3⟩ := hO.at_
     subst hv
     have hll : (m.map Prod.snd).length = i := by rw [List.length_map, Hm.out]
     exact ⟨A, _, c, _, rfl, rfl, by omega, h1, h2, hO.less hB1, T1.out.ext HE.out, U1.out.trans (Ext.upd HE.out b)⟩
end
section
open Go Go.RowKit Go.Sort
def StPost (B b : Nat) (W : World) (e : Ending) (w' : World) : Prop := ∃ t c lo hi v : Int, e = .returned (.tuple #[.agg (miR t c lo hi), .int .i64 v]) ∧ I64 t ∧ I64 c ∧ I64 lo ∧ I64 hi ∧ I64 v ∧ TapeOk B w' b ∧ Upd b W w'
theorem st_i64 {eps : Int} (he : Tol eps) {s : Option Ms} (hs : OkM eps s) : ∃ c lo hi : Int, stR eps s = miR eps c lo hi ∧ I64 c ∧ I64 lo ∧ I64 hi := by
 rcases s with _ | ⟨n, lo, hi⟩
 · exact ⟨0, 0, 0, rfl, ⟨by omega, by omega⟩, ⟨by omega, by omega⟩, ⟨by omega, by omega⟩⟩
 · have := hs.2.1
   exact ⟨n, lo, hi, rfl, ⟨by omega, by omega⟩, hs.2.2.1, hs.2.2.2.1⟩
theorem upd_new {b g : Nat} {W w w' : World} (h : Upd b W w) (u : Upd g w w') (hg : W.heap.size ≤ g) : Upd b W w' := ⟨u.1.trans h.1, u.2.1.trans h.2.1, u.2.2.1.trans h.2.2.1, Nat.le_trans h.2.2.2.1 u.2.2.2.1, fun k hk hb => (u.2.2.2.2 k (Nat.lt_of_lt_of_le hk h.2.2.2.1) (by omega)).trans (h.2.2.2.2 k hk hb)⟩
theorem tape_upd {B b g : Nat} {w w' : World} (h : TapeOk B w b) (u : Upd g w w') (hg : b < g) : TapeOk B w' b := by
 have := h.2.1
 exact h.below ⟨u.1, u.2.1, u.2.2.1, u.2.2.2.1, fun k hk => u.2.2.2.2 k (by omega) (by omega)⟩
set_option maxHeartbeats 6400000 in
set_option maxRecDepth 100000 in
theorem l_state15 (B b : Nat) (W : World) (hT : TapeOk B W b) : Calls Try.prog 9 #[.pointer (some ⟨b, 0, none⟩)] W (StPost B b W) := by
 have X2 := ext_alloc W (.cells z4m 23)
 have P2 := Blk.new W 23 z4m
 have hbW := hT.2.1
 unfold z4m at X2 P2
 have kt := hide (t_tol B b (W.alloc (.cells #[.int .i64 0, .int .i64 0, .int .i64 0, .int .i64 0] 23)) _ (hT.ext X2) (Upd.refl _ _))
 have P2 := hide P2
 have X2 := hide X2
 clear hT
 have KS : Hid (∀ tol, Tol tol → ∀ w, Calls Try.prog 11 #[.int .i64 tol] w (Ret (.tuple #[.agg (miR tol 0 0 0), .int .i64 0]) w)) := hide fun tol h w => r_startM tol w (hide fun w => r_tolI tol w true (tolB_iff.2 h))
 unfold miR at KS
 go_enter Try.func9, Try.ntmps9
 go_upto_region 2 with (first
   | (go_at_call 16; (with_reducible refine (kt.out).mono ?_); rintro e w1 ⟨tol, rfl, htol, T1, U1⟩; have ks := hide (KS.out tol htol w1); have Htol := hide htol; have T1 := hide T1; have U1 := hide U1; clear htol kt)
   | (go_at_call 11; (with_reducible refine (ks.out).mono ?_); rintro e w2 ⟨rfl, hE2⟩))
 have X3 := hE2.trans (ext_alloc w2 (.cells #[.int .i64 tol, .int .i64 0, .int .i64 0, .int .i64 0] 23))
 have P4 := Blk.new w2 23 (stR tol none)
 obtain ⟨g2, hg2⟩ : ∃ q, W.heap.size = q := ⟨_, rfl⟩
 obtain ⟨g4, hg4⟩ : ∃ q, w2.heap.size = q := ⟨_, rfl⟩
 have h24 : g2 < g4 := by have h1 := U1.out.2.2.2.1; have h2 := hE2.size; rw [alloc_size] at h1; omega
 have T3 := T1.out.ext X3
 have U3 : Upd b W (w2.alloc (.cells #[.int .i64 tol, .int .i64 0, .int .i64 0, .int .i64 0] 23)) := (X2.out.upd b).trans (U1.out.trans (X3.upd b))
 have P3 : Blk (w2.alloc (.cells #[.int .i64 tol, .int .i64 0, .int .i64 0, .int .i64 0] 23)) g2 23 #[.int .i64 0, .int .i64 0, .int .i64 0, .int .i64 0] := by
   rw [← hg2]
   have h1 : Blk w1 W.heap.size 23 #[.int .i64 0, .int .i64 0, .int .i64 0, .int .i64 0] := (U1.out.2.2.2.2 W.heap.size P2.out.lt (by omega)).trans P2.out
   exact h1.ext X3
 obtain ⟨w3, hw3⟩ : ∃ w, w2.alloc (.cells #[.int .i64 tol, .int .i64 0, .int .i64 0, .int .i64 0] 23) = w := ⟨_, rfl⟩
 have P4 : Blk w3 g4 23 (stR tol none) := by rw [← hw3, ← hg4]; exact P4
 rw [hw3] at T3 U3 P3
 rw [hw3, hg2, hg4]
 have kl : Hid (Calls Try.prog 15 #[.pointer (some ⟨b, 0, none⟩), .int .i64 12] w3 (ValsPost 12 B b w3)) := hide (t_values 12 B b (by omega) w3 T3)
 have P3 := hide P3
 have P4 := hide P4
 have U3 := hide U3
 have hb2 : b < g2 := by omega
 have hg2' := hide hg2
 clear hw3 hg4 hg2 T3 X3 T1 U1 P2 X2 hE2 KS ks
 go_upto_region 4 with (go_at_call 15; (with_reducible refine (kl.out).mono ?_); rintro e w4 ⟨Am, nm, capm, m, rfl, hnm, hn12, hncap, hncap2, hO, hT4, hU4⟩; have O4 := hide hO; have T4 := hide hT4; have U4 := hide hU4; clear hO hT4 hU4 hncap hncap2 kl)
 have Q2 : Hid (Blk w4 g2 23 #[.int .i64 0, .int .i64 0, .int .i64 0, .int .i64 0]) := hide ((U4.out.2.2.2.2 g2 P3.out.lt (by omega)).trans P3.out)
 have Q4 : Hid (Blk w4 g4 23 (stR tol none)) := hide ((U4.out.2.2.2.2 g4 P4.out.lt (by omega)).trans P4.out)
 have hg43 := P4.out.lt
 have V4 := hide (U3.out.trans U4.out)
 have Hnm := hide hnm
 have HI := hide O4.out.2
 clear P3 P4 U3 U4 hnm
 have EW : Hid (Upd g4 w4 w4) := Upd.refl _ _
 go_loopw [7] (fun iv wr => ∃ (i : Nat) (s : Option Ms), i ≤ nm ∧ iv = .int .i64 (i : Int) ∧ OkM tol s ∧ cntS s ≤ i ∧ Hid (Blk wr g4 23 (stR tol s)) ∧ Hid (Upd g4 w4 wr)) (fun iv _ => nm - (intOf iv).toNat)
 case atStart => exact ⟨0, none, by omega, rfl, trivial, Nat.le_refl _, Q4, EW⟩
 case round =>
   clear Q4 EW
   obtain ⟨i, s, hi, rfl, hok, hcnt, HP, HU⟩ := hrel
   have O5 := hide (O4.out.upd HU.out hg43)
   have ei : IntKind.i64.wrap ((i : Int) + 1) = (i : Int) + 1 := by rw [IntKind.wrap_i64]; omega
   by_cases hin : i + 1 < nm
   · have d0 : decide ((i : Int) + 1 < (nm : Int)) = true := decide_eq_true (by omega)
     obtain ⟨A', cap', hA', _, _, hM⟩ := O5.out.at_
     rw [Hnm.out] at hA'
     cases hA'
     obtain ⟨bm, om, rfl, _, hcm⟩ := hM.2.2 (by rw [Hnm.out]; omega)
     have ct := hcm i (by rw [Hnm.out]; omega)
     have ix := fun w => idxT bm om nm capm i (by omega) w
     have iv := HI.out.get i
     obtain ⟨v, hvv⟩ : ∃ v, m.getD i 0 = v := ⟨_, rfl⟩
     rw [hvv] at ct iv
     have hne : ¬ cntS s = 1073741824 := by omega
     have KS := fun w => r_stepF tol s v Htol.out hok iv w
     unfold stepF at KS
     rw [if_neg hne] at KS
     obtain ⟨hok2, hcnt2⟩ := step_okM Htol.out hok iv (by omega)
     obtain ⟨sn, hs2⟩ : ∃ z, (stepM tol s v).1 = z := ⟨_, rfl⟩
     obtain ⟨q, hq⟩ : ∃ z, (stepM tol s v).2.map coM = z := ⟨_, rfl⟩
     rw [hs2] at KS hok2 hcnt2
     rw [hq] at KS
     obtain ⟨c0, lo0, hi0, hr0⟩ := row_of tol s
     obtain ⟨c1, lo1, hi1, hr1⟩ := row_of tol sn
     rw [hr0] at KS HP
     rw [hr1] at KS
     have KS := hide KS
     have Hr1 := hide hr1
     have e0 : wr.cell? ⟨g4, 0, none⟩ = some (.int .i64 tol) := HP.out.cell 0
     have e1 : wr.cell? ⟨g4, 1, none⟩ = some (.int .i64 c0) := HP.out.cell 1
     have e2 : wr.cell? ⟨g4, 2, none⟩ = some (.int .i64 lo0) := HP.out.cell 2
     have e3 : wr.cell? ⟨g4, 3, none⟩ = some (.int .i64 hi0) := HP.out.cell 3
     have hgW := HP.out.lt
     unfold miR at KS HP
     clear hcm hvv hne hs2 hq hr0 hr1 hM O5
     go_upto_region 6 with fail
     go_region_law (go_simp; go_at_call 25; (with_reducible refine (KS.out _).mono ?_); rintro e w6 ⟨A6, k6, rfl, hO6, hE6⟩; have E6 := hide ((ext_drew wr).trans hE6); have P7 := hide (HP.out.ext E6.out); have s0 : w6.cell? ⟨g4, 0, none⟩ = some (.int .i64 tol) := P7.out.cell 0; have f0 := P7.out.frozen 0; have s1 : w6.cell? ⟨g4, 1, none⟩ = some (.int .i64 c0) := P7.out.cell 1; have f1 := P7.out.frozen 1; have s2 : w6.cell? ⟨g4, 2, none⟩ = some (.int .i64 lo0) := P7.out.cell 2; have f2 := P7.out.frozen 2; have s3 : w6.cell? ⟨g4, 3, none⟩ = some (.int .i64 hi0) := P7.out.cell 3; have f3 := P7.out.frozen 3; clear hO6 hE6)
     all_goals
       have U9 := ((((Upd.refl g4 w6).set 0 (.int .i64 tol)).set 1 (.int .i64 c1)).set 2 (.int .i64 lo1)).set 3 (.int .i64 hi1)
       have P9 := (((P7.out.set_ 0 (.int .i64 tol)).set_ 1 (.int .i64 c1)).set_ 2 (.int .i64 lo1)).set_ 3 (.int .i64 hi1)
       have V9 := hide (HU.out.trans ((E6.out.upd g4).trans U9))
       have P9 : Hid (Blk (((((w6.setCell ⟨g4, 0, none⟩ (.int .i64 tol)).setCell ⟨g4, 1, none⟩ (.int .i64 c1)).setCell ⟨g4, 2, none⟩ (.int .i64 lo1)).setCell ⟨g4, 3, none⟩ (.int .i64 hi1))) g4 23 (stR tol sn)) := by show Blk _ _ _ _; rw [Hr1.out]; exact P9
       clear U9 P7 E6 s0 s1 s2 s3 f0 f1 f2 f3 e0 e1 e2 e3 HP HU KS ct
       go_wp2_with fail
       go_roundw
       case rel => exact ⟨i + 1, sn, by omega, by go_num, hok2, by omega, P9, V9⟩
       case measure => simp [intOf]; omega
   · have d0 : decide ((i : Int) + 1 < (nm : Int)) = false := decide_eq_false (by omega)
     obtain ⟨c0, lo0, hi0, hr0, ic, il, ih⟩ := st_i64 Htol.out hok
     rw [hr0] at HP
     have itol := tol64 Htol.out
     have hgw : W.heap.size ≤ g2 := Nat.le_of_eq hg2'.out
     have R2 := hide (show Blk wr g2 23 #[.int .i64 0, .int .i64 0, .int .i64 0, .int .i64 0] from (HU.out.2.2.2.2 g2 Q2.out.lt (by omega)).trans Q2.out)
     have T5 := hide (tape_upd T4.out HU.out (by omega))
     have V5 := hide (upd_new V4.out HU.out (by omega))
     have e0 : wr.cell? ⟨g4, 0, none⟩ = some (.int .i64 tol) := HP.out.cell 0
     have e1 : wr.cell? ⟨g4, 1, none⟩ = some (.int .i64 c0) := HP.out.cell 1
     have e2 : wr.cell? ⟨g4, 2, none⟩ = some (.int .i64 lo0) := HP.out.cell 2
     have e3 : wr.cell? ⟨g4, 3, none⟩ = some (.int .i64 hi0) := HP.out.cell 3
     clear hr0 hok hcnt T4 V4
     by_cases hn0 : nm = 0
     · have d1 : ((nm : Int) == 0) = true := by rw [beq_iff_eq]; omega
       have kI := hide (t_int B b wr.drew wr.drew (T5.out.ext (ext_drew wr)) (Upd.refl _ _))
       go_upto_region 8 with fail
       go_region_law (go_simp; go_at_call 26; (with_reducible refine (kI.out).mono ?_); rintro e w6 ⟨v, rfl, hv, hT6, hU6⟩; have R6 := hide (show Blk w6 g2 23 #[.int .i64 0, .int .i64 0, .int .i64 0, .int .i64 0] from (hU6.2.2.2.2 g2 R2.out.lt (by omega)).trans R2.out); have L6 := hide (show Blk w6 g4 23 (miR tol c0 lo0 hi0) from (hU6.2.2.2.2 g4 HP.out.lt (by omega)).trans HP.out); have V6 := hide ((V5.out.trans ((ext_drew wr).upd b)).trans hU6); have T6 := hide hT6; have Hv := hide hv; have q0 : w6.cell? ⟨g4, 0, none⟩ = some (.int .i64 tol) := L6.out.cell 0; have q1 : w6.cell? ⟨g4, 1, none⟩ = some (.int .i64 c0) := L6.out.cell 1; have q2 : w6.cell? ⟨g4, 2, none⟩ = some (.int .i64 lo0) := L6.out.cell 2; have q3 : w6.cell? ⟨g4, 3, none⟩ = some (.int .i64 hi0) := L6.out.cell 3; have s0 : w6.cell? ⟨g2, 0, none⟩ = some (.int .i64 0) := R6.out.cell 0; have f0 := R6.out.frozen 0; have s1 : w6.cell? ⟨g2, 1, none⟩ = some (.int .i64 0) := R6.out.cell 1; have f1 := R6.out.frozen 1; have s2 : w6.cell? ⟨g2, 2, none⟩ = some (.int .i64 0) := R6.out.cell 2; have f2 := R6.out.frozen 2; have s3 : w6.cell? ⟨g2, 3, none⟩ = some (.int .i64 0) := R6.out.cell 3; have f3 := R6.out.frozen 3; clear hv hT6 hU6)
       all_goals
         have U9 := ((((Upd.refl g2 w6).set 0 (.int .i64 tol)).set 1 (.int .i64 c0)).set 2 (.int .i64 lo0)).set 3 (.int .i64 hi0)
         have P9 := (((R6.out.set_ 0 (.int .i64 tol)).set_ 1 (.int .i64 c0)).set_ 2 (.int .i64 lo0)).set_ 3 (.int .i64 hi0)
         have T9 := tape_upd T6.out U9 hb2
         have V9 := upd_new V6.out U9 hgw
         obtain ⟨w9, hw9⟩ : ∃ w, ((((w6.setCell ⟨g2, 0, none⟩ (.int .i64 tol)).setCell ⟨g2, 1, none⟩ (.int .i64 c0)).setCell ⟨g2, 2, none⟩ (.int .i64 lo0)).setCell ⟨g2, 3, none⟩ (.int .i64 hi0)) = w := ⟨_, rfl⟩
         rw [hw9] at P9 T9 V9 ⊢
         clear hw9
         go_wp2_with fail
         exact bodyPost_ret (res2 (p := 2) (u := 3) (ty := 23) rfl _ _ _ 23 #[.int .i64 tol, .int .i64 c0, .int .i64 lo0, .int .i64 hi0] _ rfl P9 uMid rfl iMid) rfl ⟨tol, c0, lo0, hi0, v, rfl, itol, ic, il, ih, Hv.out, T9, V9⟩
     · have d1 : ((nm : Int) == 0) = false := by rw [beq_eq_false_iff_ne]; omega
       have O5 := hide (O4.out.upd HU.out hg43)
       obtain ⟨p, hp⟩ : ∃ p, nm = p + 1 := ⟨nm - 1, by omega⟩
       obtain ⟨A', cap', hA', _, _, hM⟩ := O5.out.at_
       rw [Hnm.out] at hA'
       cases hA'
       obtain ⟨bm, om, rfl, _, hcm⟩ := hM.2.2 (by rw [Hnm.out]; omega)
       have ct := hcm p (by rw [Hnm.out]; omega)
       have ix := fun w => idxT bm om nm capm p (by omega) w
       have ep : IntKind.i64.wrap ((nm : Int) - 1) = (p : Int) := by rw [IntKind.wrap_i64]; omega
       have ep2 : (nm : Int) - 1 = (p : Int) := by omega
       have ep3 : IntKind.i64.wrap (p : Int) = (p : Int) := by rw [IntKind.wrap_i64]; omega
       have iv := HI.out.get p
       obtain ⟨v, hvv⟩ : ∃ v, m.getD p 0 = v := ⟨_, rfl⟩
       rw [hvv] at ct iv
       have s0 : wr.cell? ⟨g2, 0, none⟩ = some (.int .i64 0) := R2.out.cell 0
       have f0 := R2.out.frozen 0
       have s1 : wr.cell? ⟨g2, 1, none⟩ = some (.int .i64 0) := R2.out.cell 1
       have f1 := R2.out.frozen 1
       have s2 : wr.cell? ⟨g2, 2, none⟩ = some (.int .i64 0) := R2.out.cell 2
       have f2 := R2.out.frozen 2
       have s3 : wr.cell? ⟨g2, 3, none⟩ = some (.int .i64 0) := R2.out.cell 3
       have f3 := R2.out.frozen 3
       have U8 := (((((Upd.refl g2 wr).set 0 (.int .i64 tol)).set 1 (.int .i64 c0)).set 2 (.int .i64 lo0)).set 3 (.int .i64 hi0)).drew
       have ct9 : (((((wr.setCell ⟨g2, 0, none⟩ (.int .i64 tol)).setCell ⟨g2, 1, none⟩ (.int .i64 c0)).setCell ⟨g2, 2, none⟩ (.int .i64 lo0)).setCell ⟨g2, 3, none⟩ (.int .i64 hi0)).drew).cell? ⟨bm, om + p, none⟩ = some (.int .i64 v) := by
         obtain ⟨A9, cap9, hA9, _, _, hM9⟩ := (O5.out.upd U8 (by omega)).at_
         rw [Hnm.out] at hA9
         cases hA9
         obtain ⟨b9, o9, hB9, _, hc9⟩ := hM9.2.2 (by rw [Hnm.out]; omega)
         cases hB9
         have := hc9 p (by rw [Hnm.out]; omega)
         rw [hvv] at this
         exact this
       clear hcm hvv hM O5 hp hn0 U8
       go_upto_region 9 with fail
       go_region_law (fail)
       all_goals
         have U9 := (((((Upd.refl g2 wr).set 0 (.int .i64 tol)).set 1 (.int .i64 c0)).set 2 (.int .i64 lo0)).set 3 (.int .i64 hi0)).drew
         have P9 := ((((R2.out.set_ 0 (.int .i64 tol)).set_ 1 (.int .i64 c0)).set_ 2 (.int .i64 lo0)).set_ 3 (.int .i64 hi0)).ext (ext_drew _)
         have T9 := tape_upd T5.out U9 hb2
         have V9 := upd_new V5.out U9 hgw
         obtain ⟨w9, hw9⟩ : ∃ w, ((((wr.setCell ⟨g2, 0, none⟩ (.int .i64 tol)).setCell ⟨g2, 1, none⟩ (.int .i64 c0)).setCell ⟨g2, 2, none⟩ (.int .i64 lo0)).setCell ⟨g2, 3, none⟩ (.int .i64 hi0)).drew = w := ⟨_, rfl⟩
         rw [hw9] at P9 T9 V9 ⊢
         clear hw9
         go_wp2_with fail
         exact bodyPost_ret (res2 (p := 2) (u := 3) (ty := 23) rfl _ _ _ 23 #[.int .i64 tol, .int .i64 c0, .int .i64 lo0, .int .i64 hi0] _ rfl P9 uMid rfl iMid) rfl ⟨tol, c0, lo0, hi0, v, rfl, itol, ic, il, ih, iv, T9, V9⟩
end
section
open Go Go.RowKit Go.Sort
theorem i64_w (x : Int) : I64 (IntKind.i64.wrap x) := by obtain ⟨p, -, hp, ip⟩ := wr64 x; rw [hp]; exact ip
theorem fin_blk {b g16 g : Nat} {w6 w9 wf : World} {row : Array Value} (U : Upd b w6 w9) (V : Upd g16 w9 wf) (h1 : g ≠ b) (h2 : g ≠ g16) (P : Blk w6 g 23 row) : Hid (Blk wf g 23 row) := hide ((V.2.2.2.2 g (Nat.lt_of_lt_of_le P.lt U.2.2.2.1) h2).trans ((U.2.2.2.2 g P.lt h1).trans P))
theorem both_start (eps : Int) : ∃ (q : Int) (er : Nat), (∀ w, Calls Try.prog 10 #[.int .i64 eps] w (Ret (.tuple #[.agg (miR q 0 0 0), .int .i64 (er : Int)]) w)) ∧ (∀ w, Calls Try.prog 11 #[.int .i64 eps] w (Ret (.tuple #[.agg (miR q 0 0 0), .int .i64 (er : Int)]) w)) := by
 cases h : tolB eps with
 | false => exact ⟨0, 9, fun w => p_startM_no eps w (hide fun w => p_tolI eps w false h), fun w => r_startM_no eps w (hide fun w => r_tolI eps w false h)⟩
 | true => exact ⟨eps, 0, fun w => p_startM eps w (hide fun w => p_tolI eps w true h), fun w => r_startM eps w (hide fun w => r_tolI eps w true h)⟩
set_option maxRecDepth 100000 in
set_option maxHeartbeats 12800000 in
theorem law_mforms (t c lo hi v eps : Int) (y : Option Addr) (len cap : Nat) (W : World) (ht : I64 t) (hc : I64 c) (hlo : I64 lo) (hhi : I64 hi) (hv : I64 v) (hL : IsList W y len cap) :
   Calls Try.prog 3 #[.agg (miR t c lo hi), .int .i64 v, .int .i64 eps, .slice y len cap] W (Ret (.bool true) W) := by
 have EW := ext_alloc W (.cells (miR t c lo hi) 23)
 have P4 := Blk.new W 23 (miR t c lo hi)
 have KN := t_new (W.alloc (.cells (miR t c lo hi) 23)) y len cap (hL.ext EW)
 have KK := hide (fun w => l_known15 w)
 obtain ⟨sq, er, kp, kr⟩ := both_start eps
 have kp : Hid (∀ w, Calls Try.prog 10 #[.int .i64 eps] w (Ret (.tuple #[.agg #[.int .i64 sq, .int .i64 0, .int .i64 0, .int .i64 0], .int .i64 (er : Int)]) w)) := hide kp
 have kr : Hid (∀ w, Calls Try.prog 11 #[.int .i64 eps] w (Ret (.tuple #[.agg #[.int .i64 sq, .int .i64 0, .int .i64 0, .int .i64 0], .int .i64 (er : Int)]) w)) := hide kr
 have KA : Hid (∀ w, Calls Try.prog 14 #[.agg #[.int .i64 t, .int .i64 c, .int .i64 lo, .int .i64 hi], .int .i64 v] w (Ret (.bool true) w)) := hide fun w => l_alike15 t c lo hi v w ht hlo hhi hv
 have KB : Hid (∀ t c lo hi v : Int, I64 t → I64 lo → I64 hi → I64 v → ∀ w, Calls Try.prog 14 #[.agg #[.int .i64 t, .int .i64 c, .int .i64 lo, .int .i64 hi], .int .i64 v] w (Ret (.bool true) w)) := hide fun t c lo hi v h1 h2 h3 h4 w => l_alike15 t c lo hi v w h1 h2 h3 h4
 unfold miR at *
 obtain ⟨g4, hg4⟩ : ∃ q, W.heap.size = q := ⟨_, rfl⟩
 obtain ⟨w0, hw0⟩ : ∃ w, W.alloc (.cells #[.int .i64 t, .int .i64 c, .int .i64 lo, .int .i64 hi] 23) = w := ⟨_, rfl⟩
 rw [hw0, hg4] at P4
 rw [hw0] at EW KN
 have h4b := P4.lt
 obtain ⟨b, hb⟩ : ∃ q, w0.heap.size = q := ⟨_, rfl⟩
 rw [hb] at h4b
 have P4 : Hid (Blk w0 g4 23 #[.int .i64 t, .int .i64 c, .int .i64 lo, .int .i64 hi]) := hide P4
 have EW : Hid (Ext W w0) := hide EW
 have KN := hide KN
 have Hw := hide hw0
 have Hg := hide hg4
 have Hb := hide hb
 clear hw0 hg4 hL hb ht hc hlo hhi
 go_enter Try.func3, Try.ntmps3
 go_upto_region 1 with fail
 rw [Hw.out, Hg.out]
 clear Hw
 go_upto_region 3 with (first
   | (go_at_call 8; (with_reducible refine (KN.out).mono ?_); rintro e w1 ⟨rfl, hT, hE⟩; rw [Hb.out] at hT ⊢; have T1 := hide hT; have E1 := hide hE; have ks : Hid (Calls Try.prog 9 #[.pointer (some ⟨b, 0, none⟩)] w1 (fun e w' => ∃ t c lo hi v : Int, e = .returned (.tuple #[.agg #[.int .i64 t, .int .i64 c, .int .i64 lo, .int .i64 hi], .int .i64 v]) ∧ I64 t ∧ I64 c ∧ I64 lo ∧ I64 hi ∧ I64 v ∧ TapeOk b w' b ∧ Upd b w1 w')) := hide (l_state15 b b w1 hT); clear hT hE)
   | (go_at_call 9; (with_reducible refine (ks.out).mono ?_); rintro e w2 ⟨st, sc, sl, sh, sv, rfl, ist, isc, isl, ish, isv, hT2, hU2⟩))
 have X3 := ext_alloc w2 (.cells #[.int .i64 st, .int .i64 sc, .int .i64 sl, .int .i64 sh] 23)
 have P10 := Blk.new w2 23 #[.int .i64 st, .int .i64 sc, .int .i64 sl, .int .i64 sh]
 have T3 := hT2.ext X3
 have Y3 : Ext w0 (w2.alloc (.cells #[.int .i64 st, .int .i64 sc, .int .i64 sl, .int .i64 sh] 23)) := Ext.trans (Upd.ext hU2 E1.out (Nat.le_of_eq Hb.out)) X3
 obtain ⟨g10, hg10⟩ : ∃ q, w2.heap.size = q := ⟨_, rfl⟩
 have hb10 : b < g10 := by rw [← hg10]; exact hT2.2.1
 obtain ⟨w3, hw3⟩ : ∃ w, w2.alloc (.cells #[.int .i64 st, .int .i64 sc, .int .i64 sl, .int .i64 sh] 23) = w := ⟨_, rfl⟩
 rw [hw3, hg10] at P10
 rw [hw3] at T3 Y3
 rw [hw3, hg10]
 have P10 : Hid (Blk w3 g10 23 #[.int .i64 st, .int .i64 sc, .int .i64 sl, .int .i64 sh]) := hide P10
 have T3 := hide T3
 have Y3 := hide Y3
 clear hw3 hg10 X3 hT2 hU2 T1 E1 ks KN
 go_upto_region 4 with (go_at_call 10; (with_reducible refine (kp.out _).mono ?_); rintro e wv ⟨rfl, hE⟩)
 have E12 := hE.trans (ext_alloc wv (.cells #[.int .i64 sq, .int .i64 0, .int .i64 0, .int .i64 0] 23))
 have P12 := Blk.new wv 23 #[.int .i64 sq, .int .i64 0, .int .i64 0, .int .i64 0]
 obtain ⟨g12, hg⟩ : ∃ q, wv.heap.size = q := ⟨_, rfl⟩
 have hb12 : b < g12 := by rw [← hg]; exact Nat.lt_of_lt_of_le T3.out.2.1 (hE.size)
 obtain ⟨w4, hw⟩ : ∃ w, wv.alloc (.cells #[.int .i64 sq, .int .i64 0, .int .i64 0, .int .i64 0] 23) = w := ⟨_, rfl⟩
 rw [hw, hg] at P12
 rw [hw] at E12
 rw [hw, hg]
 have P12 : Hid (Blk w4 g12 23 #[.int .i64 sq, .int .i64 0, .int .i64 0, .int .i64 0]) := hide P12
 have E12 : Hid (Ext w3 w4) := hide E12
 clear hw hg hE kp
 go_upto_region 5 with (go_at_call 11; (with_reducible refine (kr.out _).mono ?_); rintro e wv ⟨rfl, hE⟩)
 have E14 := hE.trans (ext_alloc wv (.cells #[.int .i64 sq, .int .i64 0, .int .i64 0, .int .i64 0] 23))
 have P14 := Blk.new wv 23 #[.int .i64 sq, .int .i64 0, .int .i64 0, .int .i64 0]
 obtain ⟨g14, hg⟩ : ∃ q, wv.heap.size = q := ⟨_, rfl⟩
 have hb14 : b < g14 := by rw [← hg]; exact Nat.lt_of_lt_of_le T3.out.2.1 ((Nat.le_trans E12.out.size hE.size))
 obtain ⟨w5, hw⟩ : ∃ w, wv.alloc (.cells #[.int .i64 sq, .int .i64 0, .int .i64 0, .int .i64 0] 23) = w := ⟨_, rfl⟩
 rw [hw, hg] at P14
 rw [hw] at E14
 rw [hw, hg]
 have P14 : Hid (Blk w5 g14 23 #[.int .i64 sq, .int .i64 0, .int .i64 0, .int .i64 0]) := hide P14
 have E14 : Hid (Ext w4 w5) := hide E14
 clear hw hg hE kr
 have R10 : Hid (Blk w5 g10 23 #[.int .i64 st, .int .i64 sc, .int .i64 sl, .int .i64 sh]) := hide (P10.out.ext (E12.out.trans E14.out))
 have c0 : w5.cell? ⟨g10, 0, none⟩ = some (.int .i64 st) := R10.out.cell 0
 have c1 : w5.cell? ⟨g10, 1, none⟩ = some (.int .i64 sc) := R10.out.cell 1
 have c2 : w5.cell? ⟨g10, 2, none⟩ = some (.int .i64 sl) := R10.out.cell 2
 have c3 : w5.cell? ⟨g10, 3, none⟩ = some (.int .i64 sh) := R10.out.cell 3
 go_upto_region 6 with fail
 have E16 := ext_alloc w5 (.cells #[.int .i64 st, .int .i64 sc, .int .i64 sl, .int .i64 sh] 23)
 have P16 := Blk.new w5 23 #[.int .i64 st, .int .i64 sc, .int .i64 sl, .int .i64 sh]
 obtain ⟨g16, hg⟩ : ∃ q, w5.heap.size = q := ⟨_, rfl⟩
 have hb16 : b < g16 := by rw [← hg]; exact Nat.lt_of_lt_of_le T3.out.2.1 (E12.out.trans E14.out).size
 obtain ⟨w6, hw⟩ : ∃ w, w5.alloc (.cells #[.int .i64 st, .int .i64 sc, .int .i64 sl, .int .i64 sh] 23) = w := ⟨_, rfl⟩
 rw [hw, hg] at P16
 rw [hw] at E16
 rw [hw, hg]
 have P16 : Hid (Blk w6 g16 23 #[.int .i64 st, .int .i64 sc, .int .i64 sl, .int .i64 sh]) := hide P16
 have T6 := hide (T3.out.ext ((E12.out.trans E14.out).trans E16))
 have Q4 : Hid (Blk w6 g4 23 #[.int .i64 t, .int .i64 c, .int .i64 lo, .int .i64 hi]) := hide (P4.out.ext (Y3.out.trans ((E12.out.trans E14.out).trans E16)))
 have Q10 : Hid (Blk w6 g10 23 #[.int .i64 st, .int .i64 sc, .int .i64 sl, .int .i64 sh]) := hide (R10.out.ext E16)
 have Q12 : Hid (Blk w6 g12 23 #[.int .i64 sq, .int .i64 0, .int .i64 0, .int .i64 0]) := hide (P12.out.ext (E14.out.trans E16))
 have Q14 : Hid (Blk w6 g14 23 #[.int .i64 sq, .int .i64 0, .int .i64 0, .int .i64 0]) := hide (P14.out.ext E16)
 have Y6 := hide ((EW.out.trans Y3.out).trans ((E12.out.trans E14.out).trans E16))
 have n16 : g16 ≠ g4 ∧ g16 ≠ g10 ∧ g16 ≠ g12 ∧ g16 ≠ g14 := by
   have h1 := (P4.out.ext (Y3.out.trans (E12.out.trans E14.out))).lt
   have h2 := R10.out.lt
   have h3 := (P12.out.ext E14.out).lt
   have h4 := P14.out.lt
   rw [hg] at h1 h2 h3 h4
   exact ⟨by omega, by omega, by omega, by omega⟩
 clear c0 c1 c2 c3 hw hg E16 E12 E14 T3 P4 P10 P12 P14 R10 Y3 EW
 have i2 : I64 2 := ⟨by omega, by omega⟩
 have i3 : I64 3 := ⟨by omega, by omega⟩
 have i5 : I64 5 := ⟨by omega, by omega⟩
 have i60 : I64 60 := ⟨by omega, by omega⟩
 go_upto_region 8 with (go_at_call 12; (with_reducible refine (t_next b b 5 _ i5 T6.out).mono ?_); rintro e w8 ⟨x, rfl, hx, hT, hU⟩; have T8 := hide hT; have U8 := hide hU; clear hT hU)
 have P16 : Hid (Blk w8 g16 23 #[.int .i64 st, .int .i64 sc, .int .i64 sl, .int .i64 sh]) := hide ((U8.out.2.2.2.2 g16 P16.out.lt (by omega)).trans P16.out)
 have hx5 : x = 0 ∨ x = 1 ∨ x = 2 ∨ x = 3 ∨ x = 4 := by have h1 := hx.1; have h2 := hx.2.1 (by omega); omega
 clear hx
 rcases hx5 with rfl | rfl | rfl | rfl | rfl
 · have kN := hide (t_next b b 3 w8 i3 T8.out)
   go_upto_region 16 with (go_at_call 12; (with_reducible refine (kN.out).mono ?_); rintro e w9 ⟨u, rfl, hu, hT, hU⟩; have U9 := hide hU; have P9 : Hid (Blk w9 g16 23 #[.int .i64 st, .int .i64 sc, .int .i64 sl, .int .i64 sh]) := hide ((hU.2.2.2.2 g16 P16.out.lt (by omega)).trans P16.out); have s0 : w9.cell? ⟨g16, 0, none⟩ = some (.int .i64 st) := P9.out.cell 0; have s1 : w9.cell? ⟨g16, 1, none⟩ = some (.int .i64 sc) := P9.out.cell 1; have s2 : w9.cell? ⟨g16, 2, none⟩ = some (.int .i64 sl) := P9.out.cell 2; have s3 : w9.cell? ⟨g16, 3, none⟩ = some (.int .i64 sh) := P9.out.cell 3; have f0 := P9.out.frozen 0; have f1 := P9.out.frozen 1; have f2 := P9.out.frozen 2; have f3 := P9.out.frozen 3; clear hu hT hU)
   have V := hide ((Upd.refl g16 w9).set 1 (.int .i64 (wrap64 (u - 1))))
   have A := hide (P9.out.set_ 1 (.int .i64 (wrap64 (u - 1))))
   obtain ⟨wf, hwf⟩ : ∃ w, w9.setCell ⟨g16, 1, none⟩ (.int .i64 (wrap64 (u - 1))) = w := ⟨_, rfl⟩
   rw [hwf] at V A
   rw [hwf]
   have UT : Hid (Upd b w6 w9) := hide (U8.out.trans U9.out)
   obtain ⟨w7, A4, A10, A12, A14, YF⟩ : ∃ w7 : Unit, Hid (Blk wf g4 23 #[.int .i64 t, .int .i64 c, .int .i64 lo, .int .i64 hi]) ∧ Hid (Blk wf g10 23 #[.int .i64 st, .int .i64 sc, .int .i64 sl, .int .i64 sh]) ∧ Hid (Blk wf g12 23 #[.int .i64 sq, .int .i64 0, .int .i64 0, .int .i64 0]) ∧ Hid (Blk wf g14 23 #[.int .i64 sq, .int .i64 0, .int .i64 0, .int .i64 0]) ∧ Hid (Ext W wf) := ⟨(), fin_blk UT.out V.out (by omega) (fun h => n16.1 h.symm) Q4.out, fin_blk UT.out V.out (by omega) (fun h => n16.2.1 h.symm) Q10.out, fin_blk UT.out V.out (by omega) (fun h => n16.2.2.1 h.symm) Q12.out, fin_blk UT.out V.out (by omega) (fun h => n16.2.2.2 h.symm) Q14.out, Upd.ext V.out (Upd.ext UT.out Y6.out (by rw [Hg.out]; omega)) (by rw [Hg.out]; omega)⟩
   obtain ⟨a0, a1, a2, a3, A16, KC⟩ : ∃ a0 a1 a2 a3 : Int, Hid (Blk wf g16 23 #[.int .i64 a0, .int .i64 a1, .int .i64 a2, .int .i64 a3]) ∧ Hid (∀ w, Calls Try.prog 14 #[.agg #[.int .i64 a0, .int .i64 a1, .int .i64 a2, .int .i64 a3], .int .i64 sv] w (Ret (.bool true) w)) := ⟨st, (wrap64 (u - 1)), sl, sh, A, hide (KB.out st (wrap64 (u - 1)) sl sh sv ist isl ish isv)⟩
   clear hwf V A UT kN s0 s1 s2 s3 f0 f1 f2 f3 P9 P16 U9
   have kA2 : Hid (∀ w, Calls Try.prog 14 #[.agg #[.int .i64 st, .int .i64 sc, .int .i64 sl, .int .i64 sh], .int .i64 sv] w (Ret (.bool true) w)) := hide (KB.out st sc sl sh sv ist isl ish isv)
   have kA3 : Hid (∀ w, Calls Try.prog 14 #[.agg #[.int .i64 st, .int .i64 sc, .int .i64 sl, .int .i64 sh], .int .i64 v] w (Ret (.bool true) w)) := hide (KB.out st sc sl sh v ist isl ish hv)
   clear Q4 Q10 Q12 Q14 Y6 KB U8 T8 T6 n16 isc
   have C4 : Hid (∀ d os, (grow (redrawn wf d) os).cell? ⟨g4, 0, none⟩ = some (.int .i64 (t)) ∧ (grow (redrawn wf d) os).cell? ⟨g4, 1, none⟩ = some (.int .i64 (c)) ∧ (grow (redrawn wf d) os).cell? ⟨g4, 2, none⟩ = some (.int .i64 (lo)) ∧ (grow (redrawn wf d) os).cell? ⟨g4, 3, none⟩ = some (.int .i64 (hi))) := hide fun d os => ⟨(A4.out.ext (ext_regrown wf d os)).cell 0, (A4.out.ext (ext_regrown wf d os)).cell 1, (A4.out.ext (ext_regrown wf d os)).cell 2, (A4.out.ext (ext_regrown wf d os)).cell 3⟩
   have x4_0 := fun d os => (C4.out d os).1
   have x4_1 := fun d os => (C4.out d os).2.1
   have x4_2 := fun d os => (C4.out d os).2.2.1
   have x4_3 := fun d os => (C4.out d os).2.2.2
   have C10 : Hid (∀ d os, (grow (redrawn wf d) os).cell? ⟨g10, 0, none⟩ = some (.int .i64 (st)) ∧ (grow (redrawn wf d) os).cell? ⟨g10, 1, none⟩ = some (.int .i64 (sc)) ∧ (grow (redrawn wf d) os).cell? ⟨g10, 2, none⟩ = some (.int .i64 (sl)) ∧ (grow (redrawn wf d) os).cell? ⟨g10, 3, none⟩ = some (.int .i64 (sh))) := hide fun d os => ⟨(A10.out.ext (ext_regrown wf d os)).cell 0, (A10.out.ext (ext_regrown wf d os)).cell 1, (A10.out.ext (ext_regrown wf d os)).cell 2, (A10.out.ext (ext_regrown wf d os)).cell 3⟩
   have x10_0 := fun d os => (C10.out d os).1
   have x10_1 := fun d os => (C10.out d os).2.1
   have x10_2 := fun d os => (C10.out d os).2.2.1
   have x10_3 := fun d os => (C10.out d os).2.2.2
   have C12 : Hid (∀ d os, (grow (redrawn wf d) os).cell? ⟨g12, 0, none⟩ = some (.int .i64 (sq)) ∧ (grow (redrawn wf d) os).cell? ⟨g12, 1, none⟩ = some (.int .i64 0) ∧ (grow (redrawn wf d) os).cell? ⟨g12, 2, none⟩ = some (.int .i64 0) ∧ (grow (redrawn wf d) os).cell? ⟨g12, 3, none⟩ = some (.int .i64 0)) := hide fun d os => ⟨(A12.out.ext (ext_regrown wf d os)).cell 0, (A12.out.ext (ext_regrown wf d os)).cell 1, (A12.out.ext (ext_regrown wf d os)).cell 2, (A12.out.ext (ext_regrown wf d os)).cell 3⟩
   have x12_0 := fun d os => (C12.out d os).1
   have x12_1 := fun d os => (C12.out d os).2.1
   have x12_2 := fun d os => (C12.out d os).2.2.1
   have x12_3 := fun d os => (C12.out d os).2.2.2
   have C14 : Hid (∀ d os, (grow (redrawn wf d) os).cell? ⟨g14, 0, none⟩ = some (.int .i64 (sq)) ∧ (grow (redrawn wf d) os).cell? ⟨g14, 1, none⟩ = some (.int .i64 0) ∧ (grow (redrawn wf d) os).cell? ⟨g14, 2, none⟩ = some (.int .i64 0) ∧ (grow (redrawn wf d) os).cell? ⟨g14, 3, none⟩ = some (.int .i64 0)) := hide fun d os => ⟨(A14.out.ext (ext_regrown wf d os)).cell 0, (A14.out.ext (ext_regrown wf d os)).cell 1, (A14.out.ext (ext_regrown wf d os)).cell 2, (A14.out.ext (ext_regrown wf d os)).cell 3⟩
   have x14_0 := fun d os => (C14.out d os).1
   have x14_1 := fun d os => (C14.out d os).2.1
   have x14_2 := fun d os => (C14.out d os).2.2.1
   have x14_3 := fun d os => (C14.out d os).2.2.2
   have C16 : Hid (∀ d os, (grow (redrawn wf d) os).cell? ⟨g16, 0, none⟩ = some (.int .i64 (a0)) ∧ (grow (redrawn wf d) os).cell? ⟨g16, 1, none⟩ = some (.int .i64 (a1)) ∧ (grow (redrawn wf d) os).cell? ⟨g16, 2, none⟩ = some (.int .i64 (a2)) ∧ (grow (redrawn wf d) os).cell? ⟨g16, 3, none⟩ = some (.int .i64 (a3))) := hide fun d os => ⟨(A16.out.ext (ext_regrown wf d os)).cell 0, (A16.out.ext (ext_regrown wf d os)).cell 1, (A16.out.ext (ext_regrown wf d os)).cell 2, (A16.out.ext (ext_regrown wf d os)).cell 3⟩
   have x16_0 := fun d os => (C16.out d os).1
   have x16_1 := fun d os => (C16.out d os).2.1
   have x16_2 := fun d os => (C16.out d os).2.2.1
   have x16_3 := fun d os => (C16.out d os).2.2.2
   have em := fun w => eqM4 sq 0 0 0 w
   have b2 : ((er : Int) == (er : Int)) = true := by simp
   clear A4 A10 A12 A14 A16 C4 C10 C12 C14 C16
   refine wp_region_reads ?_
   repeat (first | go_big_quiet_step (first | with_reducible exact quiet_ret (KK.out _) | with_reducible exact quiet_ret (KA.out _) | with_reducible exact quiet_ret (kA2.out _) | with_reducible exact quiet_ret (kA3.out _) | with_reducible exact quiet_ret (KC.out _)) | quiet_step (first | with_reducible exact quiet_ret (KK.out _) | with_reducible exact quiet_ret (KA.out _) | with_reducible exact quiet_ret (kA2.out _) | with_reducible exact quiet_ret (kA3.out _) | with_reducible exact quiet_ret (KC.out _)))
   refine wpQuiet_nil ?_
   intro _ hw'
   obtain ⟨⟨dq, osq⟩, hw''⟩ := hw'
   subst hw''
   have E9 := hide (YF.out.trans (ext_regrown wf dq osq))
   go_wp2_with fail
   go_ret
   exact ⟨rfl, E9.out⟩
 · have e0 : w8.cell? ⟨g16, 0, none⟩ = some (.int .i64 st) := P16.out.cell 0; have e1 : w8.cell? ⟨g16, 1, none⟩ = some (.int .i64 sc) := P16.out.cell 1; have e2 : w8.cell? ⟨g16, 2, none⟩ = some (.int .i64 sl) := P16.out.cell 2; have e3 : w8.cell? ⟨g16, 3, none⟩ = some (.int .i64 sh) := P16.out.cell 3
   go_upto_region 11 with fail
   have kN := hide (t_next b b 3 w8.drew i3 (T8.out.ext (ext_drew w8)))
   go_region_law (go_simp; (go_at_call 12; (with_reducible refine (kN.out).mono ?_); rintro e w9 ⟨u, rfl, hu, hT, hU⟩; have U9 := hide hU; have P9 : Hid (Blk w9 g16 23 #[.int .i64 st, .int .i64 sc, .int .i64 sl, .int .i64 sh]) := hide ((hU.2.2.2.2 g16 P16.out.lt (by omega)).trans P16.out); have s0 : w9.cell? ⟨g16, 0, none⟩ = some (.int .i64 st) := P9.out.cell 0; have s1 : w9.cell? ⟨g16, 1, none⟩ = some (.int .i64 sc) := P9.out.cell 1; have s2 : w9.cell? ⟨g16, 2, none⟩ = some (.int .i64 sl) := P9.out.cell 2; have s3 : w9.cell? ⟨g16, 3, none⟩ = some (.int .i64 sh) := P9.out.cell 3; have f0 := P9.out.frozen 0; have f1 := P9.out.frozen 1; have f2 := P9.out.frozen 2; have f3 := P9.out.frozen 3; clear hu hT hU))
   all_goals
     go_upto_region 16 with fail
     have V := hide ((Upd.refl g16 w9).set 0 (.int .i64 (IntKind.i64.wrap (st - u))))
     have A := hide (P9.out.set_ 0 (.int .i64 (IntKind.i64.wrap (st - u))))
     obtain ⟨wf, hwf⟩ : ∃ w, w9.setCell ⟨g16, 0, none⟩ (.int .i64 (IntKind.i64.wrap (st - u))) = w := ⟨_, rfl⟩
     rw [hwf] at V A
     rw [hwf]
     have UT : Hid (Upd b w6 w9) := hide (U8.out.trans (((ext_drew w8).upd b).trans U9.out))
     obtain ⟨w7, A4, A10, A12, A14, YF⟩ : ∃ w7 : Unit, Hid (Blk wf g4 23 #[.int .i64 t, .int .i64 c, .int .i64 lo, .int .i64 hi]) ∧ Hid (Blk wf g10 23 #[.int .i64 st, .int .i64 sc, .int .i64 sl, .int .i64 sh]) ∧ Hid (Blk wf g12 23 #[.int .i64 sq, .int .i64 0, .int .i64 0, .int .i64 0]) ∧ Hid (Blk wf g14 23 #[.int .i64 sq, .int .i64 0, .int .i64 0, .int .i64 0]) ∧ Hid (Ext W wf) := ⟨(), fin_blk UT.out V.out (by omega) (fun h => n16.1 h.symm) Q4.out, fin_blk UT.out V.out (by omega) (fun h => n16.2.1 h.symm) Q10.out, fin_blk UT.out V.out (by omega) (fun h => n16.2.2.1 h.symm) Q12.out, fin_blk UT.out V.out (by omega) (fun h => n16.2.2.2 h.symm) Q14.out, Upd.ext V.out (Upd.ext UT.out Y6.out (by rw [Hg.out]; omega)) (by rw [Hg.out]; omega)⟩
     obtain ⟨a0, a1, a2, a3, A16, KC⟩ : ∃ a0 a1 a2 a3 : Int, Hid (Blk wf g16 23 #[.int .i64 a0, .int .i64 a1, .int .i64 a2, .int .i64 a3]) ∧ Hid (∀ w, Calls Try.prog 14 #[.agg #[.int .i64 a0, .int .i64 a1, .int .i64 a2, .int .i64 a3], .int .i64 sv] w (Ret (.bool true) w)) := ⟨(IntKind.i64.wrap (st - u)), sc, sl, sh, A, hide (KB.out (IntKind.i64.wrap (st - u)) sc sl sh sv (i64_w _) isl ish isv)⟩
     clear hwf V A UT kN s0 s1 s2 s3 f0 f1 f2 f3 e0 e1 e2 e3 P9 P16 U9
     have kA2 : Hid (∀ w, Calls Try.prog 14 #[.agg #[.int .i64 st, .int .i64 sc, .int .i64 sl, .int .i64 sh], .int .i64 sv] w (Ret (.bool true) w)) := hide (KB.out st sc sl sh sv ist isl ish isv)
     have kA3 : Hid (∀ w, Calls Try.prog 14 #[.agg #[.int .i64 st, .int .i64 sc, .int .i64 sl, .int .i64 sh], .int .i64 v] w (Ret (.bool true) w)) := hide (KB.out st sc sl sh v ist isl ish hv)
     clear Q4 Q10 Q12 Q14 Y6 KB U8 T8 T6 n16 isc
     have C4 : Hid (∀ d os, (grow (redrawn wf d) os).cell? ⟨g4, 0, none⟩ = some (.int .i64 (t)) ∧ (grow (redrawn wf d) os).cell? ⟨g4, 1, none⟩ = some (.int .i64 (c)) ∧ (grow (redrawn wf d) os).cell? ⟨g4, 2, none⟩ = some (.int .i64 (lo)) ∧ (grow (redrawn wf d) os).cell? ⟨g4, 3, none⟩ = some (.int .i64 (hi))) := hide fun d os => ⟨(A4.out.ext (ext_regrown wf d os)).cell 0, (A4.out.ext (ext_regrown wf d os)).cell 1, (A4.out.ext (ext_regrown wf d os)).cell 2, (A4.out.ext (ext_regrown wf d os)).cell 3⟩
     have x4_0 := fun d os => (C4.out d os).1
     have x4_1 := fun d os => (C4.out d os).2.1
     have x4_2 := fun d os => (C4.out d os).2.2.1
     have x4_3 := fun d os => (C4.out d os).2.2.2
     have C10 : Hid (∀ d os, (grow (redrawn wf d) os).cell? ⟨g10, 0, none⟩ = some (.int .i64 (st)) ∧ (grow (redrawn wf d) os).cell? ⟨g10, 1, none⟩ = some (.int .i64 (sc)) ∧ (grow (redrawn wf d) os).cell? ⟨g10, 2, none⟩ = some (.int .i64 (sl)) ∧ (grow (redrawn wf d) os).cell? ⟨g10, 3, none⟩ = some (.int .i64 (sh))) := hide fun d os => ⟨(A10.out.ext (ext_regrown wf d os)).cell 0, (A10.out.ext (ext_regrown wf d os)).cell 1, (A10.out.ext (ext_regrown wf d os)).cell 2, (A10.out.ext (ext_regrown wf d os)).cell 3⟩
     have x10_0 := fun d os => (C10.out d os).1
     have x10_1 := fun d os => (C10.out d os).2.1
     have x10_2 := fun d os => (C10.out d os).2.2.1
     have x10_3 := fun d os => (C10.out d os).2.2.2
     have C12 : Hid (∀ d os, (grow (redrawn wf d) os).cell? ⟨g12, 0, none⟩ = some (.int .i64 (sq)) ∧ (grow (redrawn wf d) os).cell? ⟨g12, 1, none⟩ = some (.int .i64 0) ∧ (grow (redrawn wf d) os).cell? ⟨g12, 2, none⟩ = some (.int .i64 0) ∧ (grow (redrawn wf d) os).cell? ⟨g12, 3, none⟩ = some (.int .i64 0)) := hide fun d os => ⟨(A12.out.ext (ext_regrown wf d os)).cell 0, (A12.out.ext (ext_regrown wf d os)).cell 1, (A12.out.ext (ext_regrown wf d os)).cell 2, (A12.out.ext (ext_regrown wf d os)).cell 3⟩
     have x12_0 := fun d os => (C12.out d os).1
     have x12_1 := fun d os => (C12.out d os).2.1
     have x12_2 := fun d os => (C12.out d os).2.2.1
     have x12_3 := fun d os => (C12.out d os).2.2.2
     have C14 : Hid (∀ d os, (grow (redrawn wf d) os).cell? ⟨g14, 0, none⟩ = some (.int .i64 (sq)) ∧ (grow (redrawn wf d) os).cell? ⟨g14, 1, none⟩ = some (.int .i64 0) ∧ (grow (redrawn wf d) os).cell? ⟨g14, 2, none⟩ = some (.int .i64 0) ∧ (grow (redrawn wf d) os).cell? ⟨g14, 3, none⟩ = some (.int .i64 0)) := hide fun d os => ⟨(A14.out.ext (ext_regrown wf d os)).cell 0, (A14.out.ext (ext_regrown wf d os)).cell 1, (A14.out.ext (ext_regrown wf d os)).cell 2, (A14.out.ext (ext_regrown wf d os)).cell 3⟩
     have x14_0 := fun d os => (C14.out d os).1
     have x14_1 := fun d os => (C14.out d os).2.1
     have x14_2 := fun d os => (C14.out d os).2.2.1
     have x14_3 := fun d os => (C14.out d os).2.2.2
     have C16 : Hid (∀ d os, (grow (redrawn wf d) os).cell? ⟨g16, 0, none⟩ = some (.int .i64 (a0)) ∧ (grow (redrawn wf d) os).cell? ⟨g16, 1, none⟩ = some (.int .i64 (a1)) ∧ (grow (redrawn wf d) os).cell? ⟨g16, 2, none⟩ = some (.int .i64 (a2)) ∧ (grow (redrawn wf d) os).cell? ⟨g16, 3, none⟩ = some (.int .i64 (a3))) := hide fun d os => ⟨(A16.out.ext (ext_regrown wf d os)).cell 0, (A16.out.ext (ext_regrown wf d os)).cell 1, (A16.out.ext (ext_regrown wf d os)).cell 2, (A16.out.ext (ext_regrown wf d os)).cell 3⟩
     have x16_0 := fun d os => (C16.out d os).1
     have x16_1 := fun d os => (C16.out d os).2.1
     have x16_2 := fun d os => (C16.out d os).2.2.1
     have x16_3 := fun d os => (C16.out d os).2.2.2
     have em := fun w => eqM4 sq 0 0 0 w
     have b2 : ((er : Int) == (er : Int)) = true := by simp
     clear A4 A10 A12 A14 A16 C4 C10 C12 C14 C16
     refine wp_region_reads ?_
     repeat (first | go_big_quiet_step (first | with_reducible exact quiet_ret (KK.out _) | with_reducible exact quiet_ret (KA.out _) | with_reducible exact quiet_ret (kA2.out _) | with_reducible exact quiet_ret (kA3.out _) | with_reducible exact quiet_ret (KC.out _)) | quiet_step (first | with_reducible exact quiet_ret (KK.out _) | with_reducible exact quiet_ret (KA.out _) | with_reducible exact quiet_ret (kA2.out _) | with_reducible exact quiet_ret (kA3.out _) | with_reducible exact quiet_ret (KC.out _)))
     refine wpQuiet_nil ?_
     intro _ hw'
     obtain ⟨⟨dq, osq⟩, hw''⟩ := hw'
     subst hw''
     have E9 := hide (YF.out.trans (ext_regrown wf dq osq))
     go_wp2_with fail
     go_ret
     exact ⟨rfl, E9.out⟩
 · have e0 : w8.cell? ⟨g16, 0, none⟩ = some (.int .i64 st) := P16.out.cell 0; have e1 : w8.cell? ⟨g16, 1, none⟩ = some (.int .i64 sc) := P16.out.cell 1; have e2 : w8.cell? ⟨g16, 2, none⟩ = some (.int .i64 sl) := P16.out.cell 2; have e3 : w8.cell? ⟨g16, 3, none⟩ = some (.int .i64 sh) := P16.out.cell 3; have f2 := P16.out.frozen 2
   go_upto_region 16 with fail
   have V := hide ((Upd.refl g16 w8).set 2 (.int .i64 (wrap64 (sl + 1))))
   have A := hide (P16.out.set_ 2 (.int .i64 (wrap64 (sl + 1))))
   obtain ⟨wf, hwf⟩ : ∃ w, w8.setCell ⟨g16, 2, none⟩ (.int .i64 (wrap64 (sl + 1))) = w := ⟨_, rfl⟩
   rw [hwf] at V A
   rw [hwf]
   have UT : Hid (Upd b w6 w8) := hide U8.out
   obtain ⟨w7, A4, A10, A12, A14, YF⟩ : ∃ w7 : Unit, Hid (Blk wf g4 23 #[.int .i64 t, .int .i64 c, .int .i64 lo, .int .i64 hi]) ∧ Hid (Blk wf g10 23 #[.int .i64 st, .int .i64 sc, .int .i64 sl, .int .i64 sh]) ∧ Hid (Blk wf g12 23 #[.int .i64 sq, .int .i64 0, .int .i64 0, .int .i64 0]) ∧ Hid (Blk wf g14 23 #[.int .i64 sq, .int .i64 0, .int .i64 0, .int .i64 0]) ∧ Hid (Ext W wf) := ⟨(), fin_blk UT.out V.out (by omega) (fun h => n16.1 h.symm) Q4.out, fin_blk UT.out V.out (by omega) (fun h => n16.2.1 h.symm) Q10.out, fin_blk UT.out V.out (by omega) (fun h => n16.2.2.1 h.symm) Q12.out, fin_blk UT.out V.out (by omega) (fun h => n16.2.2.2 h.symm) Q14.out, Upd.ext V.out (Upd.ext UT.out Y6.out (by rw [Hg.out]; omega)) (by rw [Hg.out]; omega)⟩
   obtain ⟨a0, a1, a2, a3, A16, KC⟩ : ∃ a0 a1 a2 a3 : Int, Hid (Blk wf g16 23 #[.int .i64 a0, .int .i64 a1, .int .i64 a2, .int .i64 a3]) ∧ Hid (∀ w, Calls Try.prog 14 #[.agg #[.int .i64 a0, .int .i64 a1, .int .i64 a2, .int .i64 a3], .int .i64 sv] w (Ret (.bool true) w)) := ⟨st, sc, (wrap64 (sl + 1)), sh, A, hide (KB.out st sc (wrap64 (sl + 1)) sh sv ist (i64_wrap _) ish isv)⟩
   clear hwf V A UT e0 e1 e2 e3 f2
   have kA2 : Hid (∀ w, Calls Try.prog 14 #[.agg #[.int .i64 st, .int .i64 sc, .int .i64 sl, .int .i64 sh], .int .i64 sv] w (Ret (.bool true) w)) := hide (KB.out st sc sl sh sv ist isl ish isv)
   have kA3 : Hid (∀ w, Calls Try.prog 14 #[.agg #[.int .i64 st, .int .i64 sc, .int .i64 sl, .int .i64 sh], .int .i64 v] w (Ret (.bool true) w)) := hide (KB.out st sc sl sh v ist isl ish hv)
   clear Q4 Q10 Q12 Q14 Y6 KB U8 T8 T6 n16 isc
   have C4 : Hid (∀ d os, (grow (redrawn wf d) os).cell? ⟨g4, 0, none⟩ = some (.int .i64 (t)) ∧ (grow (redrawn wf d) os).cell? ⟨g4, 1, none⟩ = some (.int .i64 (c)) ∧ (grow (redrawn wf d) os).cell? ⟨g4, 2, none⟩ = some (.int .i64 (lo)) ∧ (grow (redrawn wf d) os).cell? ⟨g4, 3, none⟩ = some (.int .i64 (hi))) := hide fun d os => ⟨(A4.out.ext (ext_regrown wf d os)).cell 0, (A4.out.ext (ext_regrown wf d os)).cell 1, (A4.out.ext (ext_regrown wf d os)).cell 2, (A4.out.ext (ext_regrown wf d os)).cell 3⟩
   have x4_0 := fun d os => (C4.out d os).1
   have x4_1 := fun d os => (C4.out d os).2.1
   have x4_2 := fun d os => (C4.out d os).2.2.1
   have x4_3 := fun d os => (C4.out d os).2.2.2
   have C10 : Hid (∀ d os, (grow (redrawn wf d) os).cell? ⟨g10, 0, none⟩ = some (.int .i64 (st)) ∧ (grow (redrawn wf d) os).cell? ⟨g10, 1, none⟩ = some (.int .i64 (sc)) ∧ (grow (redrawn wf d) os).cell? ⟨g10, 2, none⟩ = some (.int .i64 (sl)) ∧ (grow (redrawn wf d) os).cell? ⟨g10, 3, none⟩ = some (.int .i64 (sh))) := hide fun d os => ⟨(A10.out.ext (ext_regrown wf d os)).cell 0, (A10.out.ext (ext_regrown wf d os)).cell 1, (A10.out.ext (ext_regrown wf d os)).cell 2, (A10.out.ext (ext_regrown wf d os)).cell 3⟩
   have x10_0 := fun d os => (C10.out d os).1
   have x10_1 := fun d os => (C10.out d os).2.1
   have x10_2 := fun d os => (C10.out d os).2.2.1
   have x10_3 := fun d os => (C10.out d os).2.2.2
   have C12 : Hid (∀ d os, (grow (redrawn wf d) os).cell? ⟨g12, 0, none⟩ = some (.int .i64 (sq)) ∧ (grow (redrawn wf d) os).cell? ⟨g12, 1, none⟩ = some (.int .i64 0) ∧ (grow (redrawn wf d) os).cell? ⟨g12, 2, none⟩ = some (.int .i64 0) ∧ (grow (redrawn wf d) os).cell? ⟨g12, 3, none⟩ = some (.int .i64 0)) := hide fun d os => ⟨(A12.out.ext (ext_regrown wf d os)).cell 0, (A12.out.ext (ext_regrown wf d os)).cell 1, (A12.out.ext (ext_regrown wf d os)).cell 2, (A12.out.ext (ext_regrown wf d os)).cell 3⟩
   have x12_0 := fun d os => (C12.out d os).1
   have x12_1 := fun d os => (C12.out d os).2.1
   have x12_2 := fun d os => (C12.out d os).2.2.1
   have x12_3 := fun d os => (C12.out d os).2.2.2
   have C14 : Hid (∀ d os, (grow (redrawn wf d) os).cell? ⟨g14, 0, none⟩ = some (.int .i64 (sq)) ∧ (grow (redrawn wf d) os).cell? ⟨g14, 1, none⟩ = some (.int .i64 0) ∧ (grow (redrawn wf d) os).cell? ⟨g14, 2, none⟩ = some (.int .i64 0) ∧ (grow (redrawn wf d) os).cell? ⟨g14, 3, none⟩ = some (.int .i64 0)) := hide fun d os => ⟨(A14.out.ext (ext_regrown wf d os)).cell 0, (A14.out.ext (ext_regrown wf d os)).cell 1, (A14.out.ext (ext_regrown wf d os)).cell 2, (A14.out.ext (ext_regrown wf d os)).cell 3⟩
   have x14_0 := fun d os => (C14.out d os).1
   have x14_1 := fun d os => (C14.out d os).2.1
   have x14_2 := fun d os => (C14.out d os).2.2.1
   have x14_3 := fun d os => (C14.out d os).2.2.2
   have C16 : Hid (∀ d os, (grow (redrawn wf d) os).cell? ⟨g16, 0, none⟩ = some (.int .i64 (a0)) ∧ (grow (redrawn wf d) os).cell? ⟨g16, 1, none⟩ = some (.int .i64 (a1)) ∧ (grow (redrawn wf d) os).cell? ⟨g16, 2, none⟩ = some (.int .i64 (a2)) ∧ (grow (redrawn wf d) os).cell? ⟨g16, 3, none⟩ = some (.int .i64 (a3))) := hide fun d os => ⟨(A16.out.ext (ext_regrown wf d os)).cell 0, (A16.out.ext (ext_regrown wf d os)).cell 1, (A16.out.ext (ext_regrown wf d os)).cell 2, (A16.out.ext (ext_regrown wf d os)).cell 3⟩
   have x16_0 := fun d os => (C16.out d os).1
   have x16_1 := fun d os => (C16.out d os).2.1
   have x16_2 := fun d os => (C16.out d os).2.2.1
   have x16_3 := fun d os => (C16.out d os).2.2.2
   have em := fun w => eqM4 sq 0 0 0 w
   have b2 : ((er : Int) == (er : Int)) = true := by simp
   clear A4 A10 A12 A14 A16 C4 C10 C12 C14 C16
   refine wp_region_reads ?_
   repeat (first | go_big_quiet_step (first | with_reducible exact quiet_ret (KK.out _) | with_reducible exact quiet_ret (KA.out _) | with_reducible exact quiet_ret (kA2.out _) | with_reducible exact quiet_ret (kA3.out _) | with_reducible exact quiet_ret (KC.out _)) | quiet_step (first | with_reducible exact quiet_ret (KK.out _) | with_reducible exact quiet_ret (KA.out _) | with_reducible exact quiet_ret (kA2.out _) | with_reducible exact quiet_ret (kA3.out _) | with_reducible exact quiet_ret (KC.out _)))
   refine wpQuiet_nil ?_
   intro _ hw'
   obtain ⟨⟨dq, osq⟩, hw''⟩ := hw'
   subst hw''
   have E9 := hide (YF.out.trans (ext_regrown wf dq osq))
   go_wp2_with fail
   go_ret
   exact ⟨rfl, E9.out⟩
 · have e0 : w8.cell? ⟨g16, 0, none⟩ = some (.int .i64 st) := P16.out.cell 0; have e1 : w8.cell? ⟨g16, 1, none⟩ = some (.int .i64 sc) := P16.out.cell 1; have e2 : w8.cell? ⟨g16, 2, none⟩ = some (.int .i64 sl) := P16.out.cell 2; have e3 : w8.cell? ⟨g16, 3, none⟩ = some (.int .i64 sh) := P16.out.cell 3
   go_upto_region 15 with fail
   have kN := hide (t_next b b 60 w8.drew i60 (T8.out.ext (ext_drew w8)))
   go_region_law (go_simp; (go_at_call 12; (with_reducible refine (kN.out).mono ?_); rintro e w9 ⟨u, rfl, hu, hT, hU⟩; have U9 := hide hU; have P9 : Hid (Blk w9 g16 23 #[.int .i64 st, .int .i64 sc, .int .i64 sl, .int .i64 sh]) := hide ((hU.2.2.2.2 g16 P16.out.lt (by omega)).trans P16.out); have s0 : w9.cell? ⟨g16, 0, none⟩ = some (.int .i64 st) := P9.out.cell 0; have s1 : w9.cell? ⟨g16, 1, none⟩ = some (.int .i64 sc) := P9.out.cell 1; have s2 : w9.cell? ⟨g16, 2, none⟩ = some (.int .i64 sl) := P9.out.cell 2; have s3 : w9.cell? ⟨g16, 3, none⟩ = some (.int .i64 sh) := P9.out.cell 3; have f0 := P9.out.frozen 0; have f1 := P9.out.frozen 1; have f2 := P9.out.frozen 2; have f3 := P9.out.frozen 3; clear hu hT hU))
   all_goals
     go_upto_region 16 with fail
     have V := hide ((Upd.refl g16 w9).set 3 (.int .i64 (IntKind.i64.wrap (sh + u))))
     have A := hide (P9.out.set_ 3 (.int .i64 (IntKind.i64.wrap (sh + u))))
     obtain ⟨wf, hwf⟩ : ∃ w, w9.setCell ⟨g16, 3, none⟩ (.int .i64 (IntKind.i64.wrap (sh + u))) = w := ⟨_, rfl⟩
     rw [hwf] at V A
     rw [hwf]
     have UT : Hid (Upd b w6 w9) := hide (U8.out.trans (((ext_drew w8).upd b).trans U9.out))
     obtain ⟨w7, A4, A10, A12, A14, YF⟩ : ∃ w7 : Unit, Hid (Blk wf g4 23 #[.int .i64 t, .int .i64 c, .int .i64 lo, .int .i64 hi]) ∧ Hid (Blk wf g10 23 #[.int .i64 st, .int .i64 sc, .int .i64 sl, .int .i64 sh]) ∧ Hid (Blk wf g12 23 #[.int .i64 sq, .int .i64 0, .int .i64 0, .int .i64 0]) ∧ Hid (Blk wf g14 23 #[.int .i64 sq, .int .i64 0, .int .i64 0, .int .i64 0]) ∧ Hid (Ext W wf) := ⟨(), fin_blk UT.out V.out (by omega) (fun h => n16.1 h.symm) Q4.out, fin_blk UT.out V.out (by omega) (fun h => n16.2.1 h.symm) Q10.out, fin_blk UT.out V.out (by omega) (fun h => n16.2.2.1 h.symm) Q12.out, fin_blk UT.out V.out (by omega) (fun h => n16.2.2.2 h.symm) Q14.out, Upd.ext V.out (Upd.ext UT.out Y6.out (by rw [Hg.out]; omega)) (by rw [Hg.out]; omega)⟩
     obtain ⟨a0, a1, a2, a3, A16, KC⟩ : ∃ a0 a1 a2 a3 : Int, Hid (Blk wf g16 23 #[.int .i64 a0, .int .i64 a1, .int .i64 a2, .int .i64 a3]) ∧ Hid (∀ w, Calls Try.prog 14 #[.agg #[.int .i64 a0, .int .i64 a1, .int .i64 a2, .int .i64 a3], .int .i64 sv] w (Ret (.bool true) w)) := ⟨st, sc, sl, (IntKind.i64.wrap (sh + u)), A, hide (KB.out st sc sl (IntKind.i64.wrap (sh + u)) sv ist isl (i64_w _) isv)⟩
     clear hwf V A UT kN s0 s1 s2 s3 f0 f1 f2 f3 e0 e1 e2 e3 P9 P16 U9
     have kA2 : Hid (∀ w, Calls Try.prog 14 #[.agg #[.int .i64 st, .int .i64 sc, .int .i64 sl, .int .i64 sh], .int .i64 sv] w (Ret (.bool true) w)) := hide (KB.out st sc sl sh sv ist isl ish isv)
     have kA3 : Hid (∀ w, Calls Try.prog 14 #[.agg #[.int .i64 st, .int .i64 sc, .int .i64 sl, .int .i64 sh], .int .i64 v] w (Ret (.bool true) w)) := hide (KB.out st sc sl sh v ist isl ish hv)
     clear Q4 Q10 Q12 Q14 Y6 KB U8 T8 T6 n16 isc
     have C4 : Hid (∀ d os, (grow (redrawn wf d) os).cell? ⟨g4, 0, none⟩ = some (.int .i64 (t)) ∧ (grow (redrawn wf d) os).cell? ⟨g4, 1, none⟩ = some (.int .i64 (c)) ∧ (grow (redrawn wf d) os).cell? ⟨g4, 2, none⟩ = some (.int .i64 (lo)) ∧ (grow (redrawn wf d) os).cell? ⟨g4, 3, none⟩ = some (.int .i64 (hi))) := hide fun d os => ⟨(A4.out.ext (ext_regrown wf d os)).cell 0, (A4.out.ext (ext_regrown wf d os)).cell 1, (A4.out.ext (ext_regrown wf d os)).cell 2, (A4.out.ext (ext_regrown wf d os)).cell 3⟩
     have x4_0 := fun d os => (C4.out d os).1
     have x4_1 := fun d os => (C4.out d os).2.1
     have x4_2 := fun d os => (C4.out d os).2.2.1
     have x4_3 := fun d os => (C4.out d os).2.2.2
     have C10 : Hid (∀ d os, (grow (redrawn wf d) os).cell? ⟨g10, 0, none⟩ = some (.int .i64 (st)) ∧ (grow (redrawn wf d) os).cell? ⟨g10, 1, none⟩ = some (.int .i64 (sc)) ∧ (grow (redrawn wf d) os).cell? ⟨g10, 2, none⟩ = some (.int .i64 (sl)) ∧ (grow (redrawn wf d) os).cell? ⟨g10, 3, none⟩ = some (.int .i64 (sh))) := hide fun d os => ⟨(A10.out.ext (ext_regrown wf d os)).cell 0, (A10.out.ext (ext_regrown wf d os)).cell 1, (A10.out.ext (ext_regrown wf d os)).cell 2, (A10.out.ext (ext_regrown wf d os)).cell 3⟩
     have x10_0 := fun d os => (C10.out d os).1
     have x10_1 := fun d os => (C10.out d os).2.1
     have x10_2 := fun d os => (C10.out d os).2.2.1
     have x10_3 := fun d os => (C10.out d os).2.2.2
     have C12 : Hid (∀ d os, (grow (redrawn wf d) os).cell? ⟨g12, 0, none⟩ = some (.int .i64 (sq)) ∧ (grow (redrawn wf d) os).cell? ⟨g12, 1, none⟩ = some (.int .i64 0) ∧ (grow (redrawn wf d) os).cell? ⟨g12, 2, none⟩ = some (.int .i64 0) ∧ (grow (redrawn wf d) os).cell? ⟨g12, 3, none⟩ = some (.int .i64 0)) := hide fun d os => ⟨(A12.out.ext (ext_regrown wf d os)).cell 0, (A12.out.ext (ext_regrown wf d os)).cell 1, (A12.out.ext (ext_regrown wf d os)).cell 2, (A12.out.ext (ext_regrown wf d os)).cell 3⟩
     have x12_0 := fun d os => (C12.out d os).1
     have x12_1 := fun d os => (C12.out d os).2.1
     have x12_2 := fun d os => (C12.out d os).2.2.1
     have x12_3 := fun d os => (C12.out d os).2.2.2
     have C14 : Hid (∀ d os, (grow (redrawn wf d) os).cell? ⟨g14, 0, none⟩ = some (.int .i64 (sq)) ∧ (grow (redrawn wf d) os).cell? ⟨g14, 1, none⟩ = some (.int .i64 0) ∧ (grow (redrawn wf d) os).cell? ⟨g14, 2, none⟩ = some (.int .i64 0) ∧ (grow (redrawn wf d) os).cell? ⟨g14, 3, none⟩ = some (.int .i64 0)) := hide fun d os => ⟨(A14.out.ext (ext_regrown wf d os)).cell 0, (A14.out.ext (ext_regrown wf d os)).cell 1, (A14.out.ext (ext_regrown wf d os)).cell 2, (A14.out.ext (ext_regrown wf d os)).cell 3⟩
     have x14_0 := fun d os => (C14.out d os).1
     have x14_1 := fun d os => (C14.out d os).2.1
     have x14_2 := fun d os => (C14.out d os).2.2.1
     have x14_3 := fun d os => (C14.out d os).2.2.2
     have C16 : Hid (∀ d os, (grow (redrawn wf d) os).cell? ⟨g16, 0, none⟩ = some (.int .i64 (a0)) ∧ (grow (redrawn wf d) os).cell? ⟨g16, 1, none⟩ = some (.int .i64 (a1)) ∧ (grow (redrawn wf d) os).cell? ⟨g16, 2, none⟩ = some (.int .i64 (a2)) ∧ (grow (redrawn wf d) os).cell? ⟨g16, 3, none⟩ = some (.int .i64 (a3))) := hide fun d os => ⟨(A16.out.ext (ext_regrown wf d os)).cell 0, (A16.out.ext (ext_regrown wf d os)).cell 1, (A16.out.ext (ext_regrown wf d os)).cell 2, (A16.out.ext (ext_regrown wf d os)).cell 3⟩
     have x16_0 := fun d os => (C16.out d os).1
     have x16_1 := fun d os => (C16.out d os).2.1
     have x16_2 := fun d os => (C16.out d os).2.2.1
     have x16_3 := fun d os => (C16.out d os).2.2.2
     have em := fun w => eqM4 sq 0 0 0 w
     have b2 : ((er : Int) == (er : Int)) = true := by simp
     clear A4 A10 A12 A14 A16 C4 C10 C12 C14 C16
     refine wp_region_reads ?_
     repeat (first | go_big_quiet_step (first | with_reducible exact quiet_ret (KK.out _) | with_reducible exact quiet_ret (KA.out _) | with_reducible exact quiet_ret (kA2.out _) | with_reducible exact quiet_ret (kA3.out _) | with_reducible exact quiet_ret (KC.out _)) | quiet_step (first | with_reducible exact quiet_ret (KK.out _) | with_reducible exact quiet_ret (KA.out _) | with_reducible exact quiet_ret (kA2.out _) | with_reducible exact quiet_ret (kA3.out _) | with_reducible exact quiet_ret (KC.out _)))
     refine wpQuiet_nil ?_
     intro _ hw'
     obtain ⟨⟨dq, osq⟩, hw''⟩ := hw'
     subst hw''
     have E9 := hide (YF.out.trans (ext_regrown wf dq osq))
     go_wp2_with fail
     go_ret
     exact ⟨rfl, E9.out⟩
 · have kN := hide (t_next b b 2 w8 i2 T8.out)
   go_upto_region 16 with (go_at_call 12; (with_reducible refine (kN.out).mono ?_); rintro e w9 ⟨u, rfl, hu, hT, hU⟩; have U9 := hide hU; have P9 : Hid (Blk w9 g16 23 #[.int .i64 st, .int .i64 sc, .int .i64 sl, .int .i64 sh]) := hide ((hU.2.2.2.2 g16 P16.out.lt (by omega)).trans P16.out); have s0 : w9.cell? ⟨g16, 0, none⟩ = some (.int .i64 st) := P9.out.cell 0; have s1 : w9.cell? ⟨g16, 1, none⟩ = some (.int .i64 sc) := P9.out.cell 1; have s2 : w9.cell? ⟨g16, 2, none⟩ = some (.int .i64 sl) := P9.out.cell 2; have s3 : w9.cell? ⟨g16, 3, none⟩ = some (.int .i64 sh) := P9.out.cell 3; have f0 := P9.out.frozen 0; have f1 := P9.out.frozen 1; have f2 := P9.out.frozen 2; have f3 := P9.out.frozen 3; clear hu hT hU)
   have V := hide ((Upd.refl g16 w9).set 1 (.int .i64 (wrap64 (1073741824 + u))))
   have A := hide (P9.out.set_ 1 (.int .i64 (wrap64 (1073741824 + u))))
   obtain ⟨wf, hwf⟩ : ∃ w, w9.setCell ⟨g16, 1, none⟩ (.int .i64 (wrap64 (1073741824 + u))) = w := ⟨_, rfl⟩
   rw [hwf] at V A
   rw [hwf]
   have UT : Hid (Upd b w6 w9) := hide (U8.out.trans U9.out)
   obtain ⟨w7, A4, A10, A12, A14, YF⟩ : ∃ w7 : Unit, Hid (Blk wf g4 23 #[.int .i64 t, .int .i64 c, .int .i64 lo, .int .i64 hi]) ∧ Hid (Blk wf g10 23 #[.int .i64 st, .int .i64 sc, .int .i64 sl, .int .i64 sh]) ∧ Hid (Blk wf g12 23 #[.int .i64 sq, .int .i64 0, .int .i64 0, .int .i64 0]) ∧ Hid (Blk wf g14 23 #[.int .i64 sq, .int .i64 0, .int .i64 0, .int .i64 0]) ∧ Hid (Ext W wf) := ⟨(), fin_blk UT.out V.out (by omega) (fun h => n16.1 h.symm) Q4.out, fin_blk UT.out V.out (by omega) (fun h => n16.2.1 h.symm) Q10.out, fin_blk UT.out V.out (by omega) (fun h => n16.2.2.1 h.symm) Q12.out, fin_blk UT.out V.out (by omega) (fun h => n16.2.2.2 h.symm) Q14.out, Upd.ext V.out (Upd.ext UT.out Y6.out (by rw [Hg.out]; omega)) (by rw [Hg.out]; omega)⟩
   obtain ⟨a0, a1, a2, a3, A16, KC⟩ : ∃ a0 a1 a2 a3 : Int, Hid (Blk wf g16 23 #[.int .i64 a0, .int .i64 a1, .int .i64 a2, .int .i64 a3]) ∧ Hid (∀ w, Calls Try.prog 14 #[.agg #[.int .i64 a0, .int .i64 a1, .int .i64 a2, .int .i64 a3], .int .i64 sv] w (Ret (.bool true) w)) := ⟨st, (wrap64 (1073741824 + u)), sl, sh, A, hide (KB.out st (wrap64 (1073741824 + u)) sl sh sv ist isl ish isv)⟩
   clear hwf V A UT kN s0 s1 s2 s3 f0 f1 f2 f3 P9 P16 U9
   have kA2 : Hid (∀ w, Calls Try.prog 14 #[.agg #[.int .i64 st, .int .i64 sc, .int .i64 sl, .int .i64 sh], .int .i64 sv] w (Ret (.bool true) w)) := hide (KB.out st sc sl sh sv ist isl ish isv)
   have kA3 : Hid (∀ w, Calls Try.prog 14 #[.agg #[.int .i64 st, .int .i64 sc, .int .i64 sl, .int .i64 sh], .int .i64 v] w (Ret (.bool true) w)) := hide (KB.out st sc sl sh v ist isl ish hv)
   clear Q4 Q10 Q12 Q14 Y6 KB U8 T8 T6 n16 isc
   have C4 : Hid (∀ d os, (grow (redrawn wf d) os).cell? ⟨g4, 0, none⟩ = some (.int .i64 (t)) ∧ (grow (redrawn wf d) os).cell? ⟨g4, 1, none⟩ = some (.int .i64 (c)) ∧ (grow (redrawn wf d) os).cell? ⟨g4, 2, none⟩ = some (.int .i64 (lo)) ∧ (grow (redrawn wf d) os).cell? ⟨g4, 3, none⟩ = some (.int .i64 (hi))) := hide fun d os => ⟨(A4.out.ext (ext_regrown wf d os)).cell 0, (A4.out.ext (ext_regrown wf d os)).cell 1, (A4.out.ext (ext_regrown wf d os)).cell 2, (A4.out.ext (ext_regrown wf d os)).cell 3⟩
   have x4_0 := fun d os => (C4.out d os).1
   have x4_1 := fun d os => (C4.out d os).2.1
   have x4_2 := fun d os => (C4.out d os).2.2.1
   have x4_3 := fun d os => (C4.out d os).2.2.2
   have C10 : Hid (∀ d os, (grow (redrawn wf d) os).cell? ⟨g10, 0, none⟩ = some (.int .i64 (st)) ∧ (grow (redrawn wf d) os).cell? ⟨g10, 1, none⟩ = some (.int .i64 (sc)) ∧ (grow (redrawn wf d) os).cell? ⟨g10, 2, none⟩ = some (.int .i64 (sl)) ∧ (grow (redrawn wf d) os).cell? ⟨g10, 3, none⟩ = some (.int .i64 (sh))) := hide fun d os => ⟨(A10.out.ext (ext_regrown wf d os)).cell 0, (A10.out.ext (ext_regrown wf d os)).cell 1, (A10.out.ext (ext_regrown wf d os)).cell 2, (A10.out.ext (ext_regrown wf d os)).cell 3⟩
   have x10_0 := fun d os => (C10.out d os).1
   have x10_1 := fun d os => (C10.out d os).2.1
   have x10_2 := fun d os => (C10.out d os).2.2.1
   have x10_3 := fun d os => (C10.out d os).2.2.2
   have C12 : Hid (∀ d os, (grow (redrawn wf d) os).cell? ⟨g12, 0, none⟩ = some (.int .i64 (sq)) ∧ (grow (redrawn wf d) os).cell? ⟨g12, 1, none⟩ = some (.int .i64 0) ∧ (grow (redrawn wf d) os).cell? ⟨g12, 2, none⟩ = some (.int .i64 0) ∧ (grow (redrawn wf d) os).cell? ⟨g12, 3, none⟩ = some (.int .i64 0)) := hide fun d os => ⟨(A12.out.ext (ext_regrown wf d os)).cell 0, (A12.out.ext (ext_regrown wf d os)).cell 1, (A12.out.ext (ext_regrown wf d os)).cell 2, (A12.out.ext (ext_regrown wf d os)).cell 3⟩
   have x12_0 := fun d os => (C12.out d os).1
   have x12_1 := fun d os => (C12.out d os).2.1
   have x12_2 := fun d os => (C12.out d os).2.2.1
   have x12_3 := fun d os => (C12.out d os).2.2.2
   have C14 : Hid (∀ d os, (grow (redrawn wf d) os).cell? ⟨g14, 0, none⟩ = some (.int .i64 (sq)) ∧ (grow (redrawn wf d) os).cell? ⟨g14, 1, none⟩ = some (.int .i64 0) ∧ (grow (redrawn wf d) os).cell? ⟨g14, 2, none⟩ = some (.int .i64 0) ∧ (grow (redrawn wf d) os).cell? ⟨g14, 3, none⟩ = some (.int .i64 0)) := hide fun d os => ⟨(A14.out.ext (ext_regrown wf d os)).cell 0, (A14.out.ext (ext_regrown wf d os)).cell 1, (A14.out.ext (ext_regrown wf d os)).cell 2, (A14.out.ext (ext_regrown wf d os)).cell 3⟩
   have x14_0 := fun d os => (C14.out d os).1
   have x14_1 := fun d os => (C14.out d os).2.1
   have x14_2 := fun d os => (C14.out d os).2.2.1
   have x14_3 := fun d os => (C14.out d os).2.2.2
   have C16 : Hid (∀ d os, (grow (redrawn wf d) os).cell? ⟨g16, 0, none⟩ = some (.int .i64 (a0)) ∧ (grow (redrawn wf d) os).cell? ⟨g16, 1, none⟩ = some (.int .i64 (a1)) ∧ (grow (redrawn wf d) os).cell? ⟨g16, 2, none⟩ = some (.int .i64 (a2)) ∧ (grow (redrawn wf d) os).cell? ⟨g16, 3, none⟩ = some (.int .i64 (a3))) := hide fun d os => ⟨(A16.out.ext (ext_regrown wf d os)).cell 0, (A16.out.ext (ext_regrown wf d os)).cell 1, (A16.out.ext (ext_regrown wf d os)).cell 2, (A16.out.ext (ext_regrown wf d os)).cell 3⟩
   have x16_0 := fun d os => (C16.out d os).1
   have x16_1 := fun d os => (C16.out d os).2.1
   have x16_2 := fun d os => (C16.out d os).2.2.1
   have x16_3 := fun d os => (C16.out d os).2.2.2
   have em := fun w => eqM4 sq 0 0 0 w
   have b2 : ((er : Int) == (er : Int)) = true := by simp
   clear A4 A10 A12 A14 A16 C4 C10 C12 C14 C16
   refine wp_region_reads ?_
   repeat (first | go_big_quiet_step (first | with_reducible exact quiet_ret (KK.out _) | with_reducible exact quiet_ret (KA.out _) | with_reducible exact quiet_ret (kA2.out _) | with_reducible exact quiet_ret (kA3.out _) | with_reducible exact quiet_ret (KC.out _)) | quiet_step (first | with_reducible exact quiet_ret (KK.out _) | with_reducible exact quiet_ret (KA.out _) | with_reducible exact quiet_ret (kA2.out _) | with_reducible exact quiet_ret (kA3.out _) | with_reducible exact quiet_ret (KC.out _)))
   refine wpQuiet_nil ?_
   intro _ hw'
   obtain ⟨⟨dq, osq⟩, hw''⟩ := hw'
   subst hw''
   have E9 := hide (YF.out.trans (ext_regrown wf dq osq))
   go_wp2_with fail
   go_ret
   exact ⟨rfl, E9.out⟩
end
end Go.Proofs.Ythcnbpeeekkgkaa
