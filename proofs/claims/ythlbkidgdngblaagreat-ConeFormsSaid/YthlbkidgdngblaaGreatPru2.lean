/- Part 2 of what these claims stand on: contracts of the program's and the reference's functions, and plain facts. Conditions: each states its own. -/
import Derived.Test.YthlbkidgdngblaaGreatPru1
import Derived.Laws.Rows
import Derived.Laws.CopyRow
import Derived.Lib.QuietBelow
import Derived.Laws.Cover3
import Derived.Shelf.Small.Bits
import Derived.Lib.BitFns
namespace Go.Proofs.YthlbkidgdngblaaGreat
set_option linter.unusedVariables false
set_option linter.unusedSimpArgs false
section
open Go Go.RowKit
def aggT (d : TypeDesc) : Prop := (match d with | .struct _ | .array _ _ => true | _ => false) = true
theorem run_load_part {w : World} {g : Nat} {t : TypeId} {cs : Array Value} (h : Blk w g t cs) (ty : TypeId) (d : TypeDesc) (hu : Tryz.prog.underlying ty = some d) (hd : aggT d) (off n : Nat) (hi : (Tryz.prog.info? ty).map (·.size) = some n) (hle : off + n ≤ cs.size) (ds : Array Value) (hds : cs.extract off (off + n) = ds) :
   (Instr.loadAt ty (.pointer (some ⟨g, off, none⟩))).run Tryz.prog w = .ok (.agg ds) w := by
 have hsz : ds.toList.length = n := by rw [← hds]; simp; omega
 have hl : (loadCells ⟨g, off, none⟩ ds.toList.length).run Tryz.prog w = .ok ds.toList.toArray w :=
   run_loadCells_list (P := Tryz.prog) w ⟨g, off, none⟩ ds.toList (fun j v hv => by
     have hadd : (⟨g, off, none⟩ : Addr).add j = ⟨g, off + j, none⟩ := by unfold Addr.add; split <;> simp_all
     rw [hadd, h.cell]
     have hj : j < n := by have := (List.getElem?_eq_some_iff.1 hv).1; omega
     rw [Array.getElem?_toList, ← hds, Array.getElem?_extract] at hv
     rw [if_pos (by omega)] at hv
     exact hv)
 cases hq : Tryz.prog.info? ty with
 | none => simp [hq] at hi
 | some i =>
   have hs : i.size = n := by simpa [hq] using hi
   have hagg : (isAgg ty).run Tryz.prog w = .ok true w := by
     unfold isAgg
     rw [Sem.run_bind, run_underlying hu w]
     unfold aggT at hd
     cases d <;> simp_all
   rw [hsz, Array.toArray_toList] at hl
   simp [Instr.loadAt, Instr.sureAddr, loadVar, Sem.run_bind, hagg, sizeOf, typeInfo, hq, hs, hl]
theorem run_store_part {w : World} {g : Nat} {t : TypeId} {cs : Array Value} (h : Blk w g t cs) (ty : TypeId) (off n : Nat) (hi : (Tryz.prog.info? ty).map (·.size) = some n) (hle : off + n ≤ cs.size) (ds : Array Value) (hds : ds.size = n) (h1 : ds.all (·.oneCell') = true) (es : Array Value) (hes : (cs.toList.take off ++ ds.toList ++ cs.toList.drop (off + n)).toArray = es) :
   (Instr.storeAt ty (.pointer (some ⟨g, off, none⟩)) (.agg ds)).run Tryz.prog w = .ok () (w.setRow g es) := by
 have := run_storeCells_at (P := Tryz.prog) g off t ds.toList 0 cs w h (by simp; omega) (fun v hv => (Array.all_eq_true_iff_forall_mem.1 h1) v (by simpa using hv))
 have hl : ds.toList.length = n := by simpa using hds
 rw [hl, Nat.add_zero, hes] at this
 cases hq : Tryz.prog.info? ty with
 | none => simp [hq] at hi
 | some i =>
   have hs : ds.size = i.size := by simp [hq] at hi; omega
   simp [Instr.storeAt, Instr.sureAddr, storeVar, sizeOf, typeInfo, hq, Value.cells, hs, this]
theorem ext_row {W w : World} {g : Nat} (h : Ext W w) (hg : W.heap.size ≤ g) (cs : Array Value) : Ext W (w.setRow g cs) := by
 refine ⟨h.os, h.tape, h.output, ?_, fun k hk => ?_⟩
 · show W.heap.size ≤ (w.heap.modify g _).size
   rw [Array.size_modify]; exact h.size
 · show (w.heap.modify g _)[k]? = _
   rw [Array.getElem?_modify, if_neg (by omega)]; exact h.block k hk
theorem Blk.rowN {w : World} {g g' : Nat} {t : TypeId} {cs ds : Array Value} (h : Blk w g t cs) (hn : g ≠ g') : Blk (w.setRow g' ds) g t cs := by
 unfold Blk at h ⊢
 show (w.heap.modify g' _)[g]? = _
 rw [Array.getElem?_modify, if_neg (by omega)]; exact h
theorem wl_load {ops : Array Oper} {rest : List Oper} {o : Oper} {a : Act} {w : World} {Q : Exit → Act → World → Prop} {ty : TypeId} {x : Operand} {u v : Value} (hgd : Region.wanted o (yielded ops a.tmps) = true) (ho : o.op = .load ty x) (hx : a.eval x = u)
   (hr : (Instr.loadAt ty u).run Tryz.prog w = .ok v w) (h : wpList Tryz.prog ops Q rest (a.put o.dst v) w) : wpList Tryz.prog ops Q (o :: rest) a w :=
 wpList_step fun _ hK => by
   rw [if_pos hgd]
   unfold Oper.wp execOp
   simp only [ho, hx, Sem.run_bind, hr, Result.andThen_ok, Sem.run_pure]
   exact hK _ _ h
theorem wl_store {ops : Array Oper} {rest : List Oper} {o : Oper} {a : Act} {w w' : World} {Q : Exit → Act → World → Prop} {ty : TypeId} {x y : Operand} {u v : Value} (hgd : Region.wanted o (yielded ops a.tmps) = true) (ho : o.op = .store ty x y) (hx : a.eval x = u) (hy : a.eval y = v)
   (hr : (Instr.storeAt ty u v).run Tryz.prog w = .ok () w') (h : wpList Tryz.prog ops Q rest (a.put o.dst undef) w') : wpList Tryz.prog ops Q (o :: rest) a w :=
 wpList_step fun _ hK => by
   rw [if_pos hgd]
   unfold Oper.wp execOp
   simp only [ho, hx, hy, Sem.run_bind, hr, Result.andThen_ok, Sem.run_pure]
   exact hK _ _ h
theorem wq_load {ops : Array Oper} {rest : List Oper} {o : Oper} {a : Act} {C : World → Prop} {Q : Act → Prop} {ty : TypeId} {x : Operand} {u v : Value} (hgd : Region.wanted o (yielded ops a.tmps) = true) (ho : o.op = .load ty x) (hx : a.eval x = u)
   (hr : ∀ w, C w → (Instr.loadAt ty u).run Tryz.prog w = .ok v w) (h : wpQuiet Tryz.prog ops C Q rest (a.put o.dst v)) : wpQuiet Tryz.prog ops C Q (o :: rest) a :=
 wpQuiet_step fun K hK => by
   rw [if_pos hgd]
   refine ⟨v, fun w hw => ?_, hK _ h⟩
   unfold Oper.quietAt execOp
   simp only [ho, hx, Sem.run_bind, hr w hw, Result.andThen_ok, Sem.run_pure]
   exact ⟨rfl, rfl⟩
theorem wpList_of_quiet {ops : Array Oper} {C : World → Prop} {Q : Act → Prop} {R : Exit → Act → World → Prop} (hQ : ∀ a w, C w → Q a → R .normal a w) : ∀ (l : List Oper) (a : Act) (w : World), C w → wpQuiet Tryz.prog ops C Q l a → wpList Tryz.prog ops R l a w
 | [], a, w, hC, h => hQ a w hC h
 | o :: rest, a, w, hC, h => wpList_step fun K hK => by
   unfold wpQuiet at h
   split
   · rename_i hw
     rw [if_pos hw] at h
     exact Oper.wp_of_quiet hC (fun a w' hc k => hK _ _ (wpList_of_quiet hQ rest a w' hc k)) h
   · rename_i hw
     rw [if_neg hw] at h
     exact hK _ _ (wpList_of_quiet hQ rest _ w hC h)
theorem wp_region_reads {id : Nat} {Q : Exit → Act → World → Prop} {a : Act} {w : World} {l : List Oper}
   (h : wpQuiet Tryz.prog l.toArray (fun w' => ∃ p : Regrown, w' = Go.Sort.grow (redrawn w p.d) p.os) (fun a' => ∀ w', (∃ p : Regrown, w' = Go.Sort.grow (redrawn w p.d) p.os) → Q .normal a' w') l a) : (Code.region id l.toArray false).wp Tryz.prog Q a w :=
 wp_region_lit (wpList_of_quiet (fun a w hC h => h w hC) l a w ⟨⟨w.drawn, #[]⟩, by rw [Go.Sort.grow_empty]; rfl⟩ h)
end
section
open Go Go.RowKit Go.Sort
def Ret (v : Value) (w : World) (e : Ending) (w' : World) : Prop := e = .returned v ∧ Ext w w'
theorem quiet_ret {f : FuncId} {args : Array Value} {W : World} {d : Nat} {os : Array Obj} {v : Value} (h : Calls Tryz.prog f args (grow (redrawn W d) os) (Ret v (grow (redrawn W d) os))) :
   Calls Tryz.prog f args (grow (redrawn W d) os) fun e w'' => e = .returned v ∧ ∃ p : Regrown, w'' = grow (redrawn W p.d) p.os := Calls.regrown_of h
theorem ext_regrown (W : World) (d : Nat) (os : Array Obj) : Ext W (grow (redrawn W d) os) := below_regrown W d os
end
section
open Go Go.RowKit Go.Sort
def zR : Array Value := #[.bool false, .int .u64 0, .int .u64 0, .int .u64 0, .int .u64 0, .bool false, .int .u64 0, .int .u64 0, .int .u64 0, .int .u64 0]
def coneC (o : Bool) (L H : Array Value) : Array Value := #[.bool o] ++ L ++ H
theorem coneC_size (o : Bool) {L H : Array Value} (hL : L.size = 10) (hH : H.size = 10) : (coneC o L H).size = 21 := by simp [coneC, hL, hH]
theorem coneC_lo (o : Bool) {L H : Array Value} (hL : L.size = 10) (hH : H.size = 10) : (coneC o L H).extract 1 (1 + 10) = L := by
 apply Array.ext_getElem?
 intro i
 simp only [coneC, Array.getElem?_extract, Array.size_append, hL, hH]
 by_cases h : i < 10
 · rw [if_pos (by simp; omega), Array.append_assoc, Array.getElem?_append_right (by simp), Array.getElem?_append_left (by simp; omega)]
   congr 1
   simp
 · rw [if_neg (by simp <;> omega)]
   exact (Array.getElem?_eq_none (by omega)).symm
theorem coneC_hi (o : Bool) {L H : Array Value} (hL : L.size = 10) (hH : H.size = 10) : (coneC o L H).extract 11 (11 + 10) = H := by
 apply Array.ext_getElem?
 intro i
 simp only [coneC, Array.getElem?_extract, Array.size_append, hL, hH]
 by_cases h : i < 10
 · rw [if_pos (by simp; omega), Array.getElem?_append_right (by simp [hL] <;> omega)]
   congr 1; simp [hL]
 · rw [if_neg (by simp <;> omega)]
   exact (Array.getElem?_eq_none (by omega)).symm
theorem coneC_all (o : Bool) {L H : Array Value} (hL : L.size = 10) (hH : H.size = 10) : (coneC o L H).extract 0 (0 + 21) = coneC o L H := by
 have := coneC_size o hL hH
 rw [Nat.zero_add, ← this]; simp
theorem uCone : Tryz.prog.underlying 29 = some (.struct (Tryz.prog.fieldsOf 29)) := by kernel_rfl
theorem uRat : Tryz.prog.underlying 27 = some (.struct (Tryz.prog.fieldsOf 27)) := by kernel_rfl
theorem iCone : (Tryz.prog.info? 29).map (·.size) = some 21 := by kernel_rfl
theorem iRat : (Tryz.prog.info? 27).map (·.size) = some 10 := by kernel_rfl
theorem cone_loads {w : World} {g : Nat} {o : Bool} {L H : Array Value} (h : Blk w g 29 (coneC o L H)) (hL : L.size = 10) (hH : H.size = 10) :
   (Instr.loadAt 29 (.pointer (some ⟨g, 0, none⟩))).run Tryz.prog w = .ok (.agg (coneC o L H)) w ∧ w.cell? ⟨g, 0, none⟩ = some (.bool o) ∧ (Instr.loadAt 27 (.pointer (some ⟨g, 1, none⟩))).run Tryz.prog w = .ok (.agg L) w ∧ (Instr.loadAt 27 (.pointer (some ⟨g, 11, none⟩))).run Tryz.prog w = .ok (.agg H) w :=
 ⟨run_load_part h _ _ uCone rfl 0 21 iCone (Nat.le_of_eq (by rw [coneC_size o hL hH])) _ (coneC_all o hL hH), by rw [h.cell, coneC, Array.append_assoc, Array.getElem?_append_left (by simp)]; rfl, run_load_part h _ _ uRat rfl 1 10 iRat (by rw [coneC_size o hL hH]; omega) _ (coneC_lo o hL hH), run_load_part h _ _ uRat rfl 11 10 iRat (Nat.le_of_eq (by rw [coneC_size o hL hH])) _ (coneC_hi o hL hH)⟩
def stC : Array Value := #[.bool true, .bool false, .int .u64 0, .int .u64 0, .int .u64 0, .int .u64 0, .bool false, .int .u64 0, .int .u64 0, .int .u64 0, .int .u64 0, .bool false, .int .u64 0, .int .u64 0, .int .u64 0, .int .u64 0, .bool false, .int .u64 0, .int .u64 0, .int .u64 0, .int .u64 0]
theorem stC_cone : stC = coneC true zR zR := rfl
def z21 : Array Value := #[.bool false, .bool false, .int .u64 0, .int .u64 0, .int .u64 0, .int .u64 0, .bool false, .int .u64 0, .int .u64 0, .int .u64 0, .int .u64 0, .bool false, .int .u64 0, .int .u64 0, .int .u64 0, .int .u64 0, .bool false, .int .u64 0, .int .u64 0, .int .u64 0, .int .u64 0]
set_option maxRecDepth 100000 in
theorem rc_start (w : World) : Calls Tryz.prog 8 #[] w (Ret (.agg stC) w) := by
 obtain ⟨W, hW⟩ : ∃ W, w.alloc (.cells z21 29) = W := ⟨_, rfl⟩
 have P0 := Blk.new w 29 z21
 have EE := ext_alloc w (.cells z21 29)
 rw [hW] at P0 EE
 unfold z21 at hW
 have HW := hide hW
 clear hW
 go_enter Tryz.func8, Tryz.ntmps8
 go_upto_region 1 with fail
 rw [HW.out]
 have H0 : W.heap[w.heap.size]? = some (.cells z21 29 (0, 0)) := P0
 clear HW
 have hz : z21.size = stC.size := rfl
 have ha : stC.all (·.oneCell') = true := by kernel_rfl
 go_wp2_with (refine wpList_store_row rfl 29 (.tmp 0) (.tmp 1) rfl w.heap.size stC rfl rfl 29 z21 H0 iCone hz ha ?_)
 exact bodyPost_ret (results_cell_row (p := 0) (ty := 29) rfl _ _ w.heap.size 29 stC (0, 0) _ rfl (P0.setRow stC) uCone rfl iCone) rfl ⟨rfl, ext_row EE (Nat.le_refl _) _⟩
set_option maxRecDepth 100000 in
set_option maxHeartbeats 3200000 in
theorem rc_valid (o : Bool) (L H : Array Value) (hL : L.size = 10) (hH : H.size = 10) (W : World) (e bl bh : Bool) (r : Int)
   (hq : o = true → ∀ w, (binOp .eql 29 (.agg (coneC o L H)) (.agg stC)).run Tryz.prog w = .ok (.bool e) w)
   (KL : o = false → ∀ w, Calls Tryz.prog 43 #[.agg L] w (Ret (.bool bl) w)) (KH : o = false → ∀ w, Calls Tryz.prog 43 #[.agg H] w (Ret (.bool bh) w))
   (KC : o = false → bl = true → bh = true → ∀ w, Calls Tryz.prog 12 #[.agg L, .agg H] w (Ret (.int .i64 r) w))
   (v : Bool) (hv : (if o then e else (bl && (bh && decide (r ≤ 0)))) = v) :
   Calls Tryz.prog 21 #[.agg (coneC o L H)] W (Ret (.bool v) W) := by
 have hsz := coneC_size o hL hH
 have LD0 := fun w (h : Blk w W.heap.size 29 (coneC o L H)) => cone_loads h hL hH
 obtain ⟨X, hX⟩ : ∃ X, coneC o L H = X := ⟨_, rfl⟩
 rw [hX] at hq LD0 hsz ⊢
 have P0 := Blk.new W 29 X
 have EE := hide (ext_alloc W (.cells X 29))
 obtain ⟨W1, hW1⟩ : ∃ W1, W.alloc (.cells X 29) = W1 := ⟨_, rfl⟩
 obtain ⟨g, hg⟩ : ∃ g, W.heap.size = g := ⟨_, rfl⟩
 rw [hW1] at P0 EE
 rw [hg] at P0 LD0
 have LD := hide (fun w (h : Ext W1 w) => LD0 w (P0.ext h))
 obtain ⟨a1, a2, a3, a4⟩ := LD.out W1 (Ext.refl _)
 have HW := hide hW1
 have Hg := hide hg
 clear hW1 hg P0 LD0 hX hL hH
 cases o with
 | true =>
   obtain rfl : e = v := hv
   have hq := hq rfl
   have KS := hide (fun w => rc_start w)
   clear KL KH KC
   go_enter Tryz.func21, Tryz.ntmps21
   go_upto_region 1 with fail
   rw [HW.out, Hg.out]
   go_upto_region 2 with fail
   refine wp_region_quiet_below (by kernel_rfl) (by kernel_rfl) ?_
   refine wq_load (by kernel_rfl) rfl rfl (fun w hw => by obtain ⟨⟨d, os⟩, rfl⟩ := hw; exact (LD.out _ (ext_regrown W1 d os)).1) ?_
   repeat (first | go_big_quiet_step (with_reducible exact quiet_ret (KS.out _)) | quiet_step (with_reducible exact quiet_ret (KS.out _)))
   refine wpQuiet_nil ?_
   intro _ hw'
   obtain ⟨⟨dq, osq⟩, hw''⟩ := hw'
   subst hw''
   have X6 := hide (EE.out.trans (ext_regrown _ dq osq))
   obtain ⟨z6, hz6⟩ : ∃ w, grow (redrawn W1 dq) osq = w := ⟨_, rfl⟩
   rw [hz6] at X6 ⊢
   clear hz6
   go_wp2_with fail
   go_ret
   exact ⟨rfl, X6.out⟩
 | false =>
   have kl := hide (KL rfl)
   have kh := hide (KH rfl)
   clear KL KH
   have hv : (bl && (bh && decide (r ≤ 0))) = v := hv
   clear hq
   cases bl with
   | false =>
     obtain rfl : false = v := hv
     clear KC kh
     go_enter Tryz.func21, Tryz.ntmps21
     go_upto_region 1 with fail
     rw [HW.out, Hg.out]
     go_wp2_with (first
       | (refine wl_load (by kernel_rfl) rfl rfl a3 ?_)
       | (go_at_call 43; (with_reducible refine (kl.out _).mono ?_); rintro e w2 ⟨rfl, hE⟩; have E2 := hide (EE.out.trans hE); clear hE))
     go_ret
     exact ⟨rfl, E2.out⟩
   | true =>
     cases bh with
     | false =>
       obtain rfl : false = v := hv
       clear KC
       go_enter Tryz.func21, Tryz.ntmps21
       go_upto_region 1 with fail
       rw [HW.out, Hg.out]
       go_wp2_with (first
         | (refine wl_load (by kernel_rfl) rfl rfl a3 ?_)
         | (refine wl_load (by kernel_rfl) rfl rfl b4 ?_)
         | (refine wl_load (by kernel_rfl) rfl rfl c3 ?_)
         | (refine wl_load (by kernel_rfl) rfl rfl c4 ?_)
         | (go_at_call 43; (with_reducible refine (kl.out _).mono ?_); rintro e w2 ⟨rfl, hE⟩; have E2 := hide hE; obtain ⟨b1, b2, b3, b4⟩ := LD.out w2 hE; clear hE)
         | (go_at_call 43; (with_reducible refine (kh.out _).mono ?_); rintro e w3 ⟨rfl, hE⟩; have E3 := hide (E2.out.trans hE); clear hE))
       go_ret
       exact ⟨rfl, EE.out.trans E3.out⟩
     | true =>
       obtain rfl : decide (r ≤ 0) = v := hv
       have kc := hide (KC rfl rfl rfl)
       clear KC
       go_enter Tryz.func21, Tryz.ntmps21
       go_upto_region 1 with fail
       rw [HW.out, Hg.out]
       go_wp2_with (first
         | (refine wl_load (by kernel_rfl) rfl rfl a3 ?_)
         | (refine wl_load (by kernel_rfl) rfl rfl b4 ?_)
         | (refine wl_load (by kernel_rfl) rfl rfl c3 ?_)
         | (refine wl_load (by kernel_rfl) rfl rfl c4 ?_)
         | (go_at_call 43; (with_reducible refine (kl.out _).mono ?_); rintro e w2 ⟨rfl, hE⟩; have E2 := hide hE; obtain ⟨b1, b2, b3, b4⟩ := LD.out w2 hE; clear hE)
         | (go_at_call 43; (with_reducible refine (kh.out _).mono ?_); rintro e w3 ⟨rfl, hE⟩; have E3 := hide (E2.out.trans hE); obtain ⟨c1, c2, c3, c4⟩ := LD.out w3 E3.out; clear hE)
         | (go_at_call 12; (with_reducible refine (kc.out _).mono ?_); rintro e w4 ⟨rfl, hE⟩; have E4 := hide (E3.out.trans hE); clear hE))
       go_ret
       exact ⟨rfl, EE.out.trans E4.out⟩
end
section
open Go Go.RowKit Go.Sort
theorem rat_load {w : World} {g : Nat} {S : Array Value} (h : Blk w g 27 S) (hS : S.size = 10) : (Instr.loadAt 27 (.pointer (some ⟨g, 0, none⟩))).run Tryz.prog w = .ok (.agg S) w :=
 run_load_part h _ _ uRat rfl 0 10 iRat (by omega) _ (by rw [Nat.zero_add, ← hS]; simp)
theorem alloc_size (w : World) (o : Obj) : (w.alloc o).heap.size = w.heap.size + 1 := Array.size_push ..
set_option maxRecDepth 100000 in
set_option maxHeartbeats 3200000 in
theorem rc_contains (o : Bool) (L H S : Array Value) (hL : L.size = 10) (hH : H.size = 10) (hS : S.size = 10) (W : World) (vc vs : Bool) (r1 r2 : Int)
   (KV : ∀ w, Calls Tryz.prog 21 #[.agg (coneC o L H)] w (Ret (.bool vc) w)) (KS : vc = true → ∀ w, Calls Tryz.prog 43 #[.agg S] w (Ret (.bool vs) w))
   (K1 : vc = true → vs = true → o = false → ∀ w, Calls Tryz.prog 12 #[.agg L, .agg S] w (Ret (.int .i64 r1) w)) (K2 : vc = true → vs = true → o = false → ∀ w, Calls Tryz.prog 12 #[.agg S, .agg H] w (Ret (.int .i64 r2) w))
   (v : Bool) (hv : (vc && (vs && (o || (decide (r1 ≤ 0) && decide (r2 ≤ 0))))) = v) :
   Calls Tryz.prog 22 #[.agg (coneC o L H), .agg S] W (Ret (.bool v) W) := by
 have LD0 := fun w (h : Blk w W.heap.size 29 (coneC o L H)) => cone_loads h hL hH
 obtain ⟨X, hX⟩ : ∃ X, coneC o L H = X := ⟨_, rfl⟩
 rw [hX] at KV LD0 ⊢
 have P0 := (Blk.new W 29 X).alloc (.cells S 27)
 have P1 := Blk.new (W.alloc (.cells X 29)) 27 S
 have EE := hide (Ext.trans (ext_alloc W (.cells X 29)) (ext_alloc _ (.cells S 27)))
 rw [alloc_size] at P1
 obtain ⟨W1, hW1⟩ : ∃ W1, (W.alloc (.cells X 29)).alloc (.cells S 27) = W1 := ⟨_, rfl⟩
 obtain ⟨g, hg⟩ : ∃ g, W.heap.size = g := ⟨_, rfl⟩
 rw [hW1] at P0 P1 EE
 rw [hg] at P0 P1 LD0
 have LD : Hid (∀ w, Ext W1 w → _ ∧ _ ∧ _ ∧ _ ∧ _) := hide (fun w (h : Ext W1 w) => ⟨(LD0 w (P0.ext h)).1, (LD0 w (P0.ext h)).2.1, (LD0 w (P0.ext h)).2.2.1, (LD0 w (P0.ext h)).2.2.2, rat_load (P1.ext h) hS⟩)
 have HW := hide hW1
 have Hg := hide hg
 have kv := hide KV
 clear hW1 hg P0 P1 LD0 hX hL hH hS KV
 cases vc with
 | false =>
   obtain rfl : false = v := hv
   clear KS K1 K2
   go_enter Tryz.func22, Tryz.ntmps22
   go_upto_region 1 with fail
   rw [HW.out, Hg.out]
   have cb := fun d os => (LD.out _ (ext_regrown W1 d os)).2.1
   refine wp_region_reads ?_
   repeat (first | go_big_quiet_step (first | with_reducible exact quiet_ret (kv.out _)) | (refine wq_load (by kernel_rfl) rfl rfl (fun w hw => by obtain ⟨⟨d, os⟩, rfl⟩ := hw; exact (LD.out _ (ext_regrown W1 d os)).1) ?_) | (refine wq_load (by kernel_rfl) rfl rfl (fun w hw => by obtain ⟨⟨d, os⟩, rfl⟩ := hw; exact (LD.out _ (ext_regrown W1 d os)).2.2.1) ?_) | (refine wq_load (by kernel_rfl) rfl rfl (fun w hw => by obtain ⟨⟨d, os⟩, rfl⟩ := hw; exact (LD.out _ (ext_regrown W1 d os)).2.2.2.1) ?_) | (refine wq_load (by kernel_rfl) rfl rfl (fun w hw => by obtain ⟨⟨d, os⟩, rfl⟩ := hw; exact (LD.out _ (ext_regrown W1 d os)).2.2.2.2) ?_) | quiet_step (first | with_reducible exact quiet_ret (kv.out _)))
   refine wpQuiet_nil ?_
   intro _ hw'
   obtain ⟨⟨dq, osq⟩, hw''⟩ := hw'
   subst hw''
   have X6 := hide (EE.out.trans (ext_regrown _ dq osq))
   obtain ⟨z6, hz6⟩ : ∃ w, grow (redrawn W1 dq) osq = w := ⟨_, rfl⟩
   rw [hz6] at X6 ⊢
   clear hz6
   go_wp2_with fail
   go_ret
   exact ⟨rfl, X6.out⟩
 | true =>
   have ks := hide (KS rfl)
   have K1 := K1 rfl
   have K2 := K2 rfl
   clear KS
   cases vs with
   | false =>
     obtain rfl : false = v := hv
     clear K1 K2
     go_enter Tryz.func22, Tryz.ntmps22
     go_upto_region 1 with fail
     rw [HW.out, Hg.out]
     have cb := fun d os => (LD.out _ (ext_regrown W1 d os)).2.1
     refine wp_region_reads ?_
     repeat (first | go_big_quiet_step (first | with_reducible exact quiet_ret (kv.out _) | with_reducible exact quiet_ret (ks.out _)) | (refine wq_load (by kernel_rfl) rfl rfl (fun w hw => by obtain ⟨⟨d, os⟩, rfl⟩ := hw; exact (LD.out _ (ext_regrown W1 d os)).1) ?_) | (refine wq_load (by kernel_rfl) rfl rfl (fun w hw => by obtain ⟨⟨d, os⟩, rfl⟩ := hw; exact (LD.out _ (ext_regrown W1 d os)).2.2.1) ?_) | (refine wq_load (by kernel_rfl) rfl rfl (fun w hw => by obtain ⟨⟨d, os⟩, rfl⟩ := hw; exact (LD.out _ (ext_regrown W1 d os)).2.2.2.1) ?_) | (refine wq_load (by kernel_rfl) rfl rfl (fun w hw => by obtain ⟨⟨d, os⟩, rfl⟩ := hw; exact (LD.out _ (ext_regrown W1 d os)).2.2.2.2) ?_) | quiet_step (first | with_reducible exact quiet_ret (kv.out _) | with_reducible exact quiet_ret (ks.out _)))
     refine wpQuiet_nil ?_
     intro _ hw'
     obtain ⟨⟨dq, osq⟩, hw''⟩ := hw'
     subst hw''
     have X6 := hide (EE.out.trans (ext_regrown _ dq osq))
     obtain ⟨z6, hz6⟩ : ∃ w, grow (redrawn W1 dq) osq = w := ⟨_, rfl⟩
     rw [hz6] at X6 ⊢
     clear hz6
     go_wp2_with fail
     go_ret
     exact ⟨rfl, X6.out⟩
   | true =>
     have K1 := K1 rfl
     have K2 := K2 rfl
     cases o with
     | true =>
       obtain rfl : true = v := hv
       clear K1 K2
       go_enter Tryz.func22, Tryz.ntmps22
       go_upto_region 1 with fail
       rw [HW.out, Hg.out]
       have cb := fun d os => (LD.out _ (ext_regrown W1 d os)).2.1
       refine wp_region_reads ?_
       repeat (first | go_big_quiet_step (first | with_reducible exact quiet_ret (kv.out _) | with_reducible exact quiet_ret (ks.out _)) | (refine wq_load (by kernel_rfl) rfl rfl (fun w hw => by obtain ⟨⟨d, os⟩, rfl⟩ := hw; exact (LD.out _ (ext_regrown W1 d os)).1) ?_) | (refine wq_load (by kernel_rfl) rfl rfl (fun w hw => by obtain ⟨⟨d, os⟩, rfl⟩ := hw; exact (LD.out _ (ext_regrown W1 d os)).2.2.1) ?_) | (refine wq_load (by kernel_rfl) rfl rfl (fun w hw => by obtain ⟨⟨d, os⟩, rfl⟩ := hw; exact (LD.out _ (ext_regrown W1 d os)).2.2.2.1) ?_) | (refine wq_load (by kernel_rfl) rfl rfl (fun w hw => by obtain ⟨⟨d, os⟩, rfl⟩ := hw; exact (LD.out _ (ext_regrown W1 d os)).2.2.2.2) ?_) | quiet_step (first | with_reducible exact quiet_ret (kv.out _) | with_reducible exact quiet_ret (ks.out _)))
       refine wpQuiet_nil ?_
       intro _ hw'
       obtain ⟨⟨dq, osq⟩, hw''⟩ := hw'
       subst hw''
       have X6 := hide (EE.out.trans (ext_regrown _ dq osq))
       obtain ⟨z6, hz6⟩ : ∃ w, grow (redrawn W1 dq) osq = w := ⟨_, rfl⟩
       rw [hz6] at X6 ⊢
       clear hz6
       go_wp2_with fail
       go_ret
       exact ⟨rfl, X6.out⟩
     | false =>
       have k1 := hide (K1 rfl)
       have k2 := hide (K2 rfl)
       clear K1 K2
       have hv : (decide (r1 ≤ 0) && decide (r2 ≤ 0)) = v := hv
       by_cases h1 : r1 ≤ 0
       · have d1 : decide (r1 ≤ 0) = true := decide_eq_true h1
         obtain rfl : decide (r2 ≤ 0) = v := by rw [← hv, d1]; rfl
         clear hv
         go_enter Tryz.func22, Tryz.ntmps22
         go_upto_region 1 with fail
         rw [HW.out, Hg.out]
         have cb := fun d os => (LD.out _ (ext_regrown W1 d os)).2.1
         refine wp_region_reads ?_
         repeat (first | go_big_quiet_step (first | with_reducible exact quiet_ret (kv.out _) | with_reducible exact quiet_ret (ks.out _) | with_reducible exact quiet_ret (k1.out _) | with_reducible exact quiet_ret (k2.out _)) | (refine wq_load (by kernel_rfl) rfl rfl (fun w hw => by obtain ⟨⟨d, os⟩, rfl⟩ := hw; exact (LD.out _ (ext_regrown W1 d os)).1) ?_) | (refine wq_load (by kernel_rfl) rfl rfl (fun w hw => by obtain ⟨⟨d, os⟩, rfl⟩ := hw; exact (LD.out _ (ext_regrown W1 d os)).2.2.1) ?_) | (refine wq_load (by kernel_rfl) rfl rfl (fun w hw => by obtain ⟨⟨d, os⟩, rfl⟩ := hw; exact (LD.out _ (ext_regrown W1 d os)).2.2.2.1) ?_) | (refine wq_load (by kernel_rfl) rfl rfl (fun w hw => by obtain ⟨⟨d, os⟩, rfl⟩ := hw; exact (LD.out _ (ext_regrown W1 d os)).2.2.2.2) ?_) | quiet_step (first | with_reducible exact quiet_ret (kv.out _) | with_reducible exact quiet_ret (ks.out _) | with_reducible exact quiet_ret (k1.out _) | with_reducible exact quiet_ret (k2.out _)))
         refine wpQuiet_nil ?_
         intro _ hw'
         obtain ⟨⟨dq, osq⟩, hw''⟩ := hw'
         subst hw''
         have X6 := hide (EE.out.trans (ext_regrown _ dq osq))
         obtain ⟨z6, hz6⟩ : ∃ w, grow (redrawn W1 dq) osq = w := ⟨_, rfl⟩
         rw [hz6] at X6 ⊢
         clear hz6
         go_wp2_with fail
         go_ret
         exact ⟨rfl, X6.out⟩
       · have d1 : decide (r1 ≤ 0) = false := decide_eq_false h1
         obtain rfl : false = v := by rw [← hv, d1]; rfl
         clear hv
         go_enter Tryz.func22, Tryz.ntmps22
         go_upto_region 1 with fail
         rw [HW.out, Hg.out]
         have cb := fun d os => (LD.out _ (ext_regrown W1 d os)).2.1
         refine wp_region_reads ?_
         repeat (first | go_big_quiet_step (first | with_reducible exact quiet_ret (kv.out _) | with_reducible exact quiet_ret (ks.out _) | with_reducible exact quiet_ret (k1.out _)) | (refine wq_load (by kernel_rfl) rfl rfl (fun w hw => by obtain ⟨⟨d, os⟩, rfl⟩ := hw; exact (LD.out _ (ext_regrown W1 d os)).1) ?_) | (refine wq_load (by kernel_rfl) rfl rfl (fun w hw => by obtain ⟨⟨d, os⟩, rfl⟩ := hw; exact (LD.out _ (ext_regrown W1 d os)).2.2.1) ?_) | (refine wq_load (by kernel_rfl) rfl rfl (fun w hw => by obtain ⟨⟨d, os⟩, rfl⟩ := hw; exact (LD.out _ (ext_regrown W1 d os)).2.2.2.1) ?_) | (refine wq_load (by kernel_rfl) rfl rfl (fun w hw => by obtain ⟨⟨d, os⟩, rfl⟩ := hw; exact (LD.out _ (ext_regrown W1 d os)).2.2.2.2) ?_) | quiet_step (first | with_reducible exact quiet_ret (kv.out _) | with_reducible exact quiet_ret (ks.out _) | with_reducible exact quiet_ret (k1.out _)))
         refine wpQuiet_nil ?_
         intro _ hw'
         obtain ⟨⟨dq, osq⟩, hw''⟩ := hw'
         subst hw''
         have X6 := hide (EE.out.trans (ext_regrown _ dq osq))
         obtain ⟨z6, hz6⟩ : ∃ w, grow (redrawn W1 dq) osq = w := ⟨_, rfl⟩
         rw [hz6] at X6 ⊢
         clear hz6
         go_wp2_with fail
         go_ret
         exact ⟨rfl, X6.out⟩
end
section
open Go Go.RowKit Go.Sort
theorem rat_store {w : World} {g : Nat} {cs ds : Array Value} (h : Blk w g 27 cs) (hc : cs.size = 10) (hd : ds.size = 10) (h1 : ds.all (·.oneCell') = true) : (Instr.storeAt 27 (.pointer (some ⟨g, 0, none⟩)) (.agg ds)).run Tryz.prog w = .ok () (w.setRow g ds) :=
 run_store_part h _ 0 10 iRat (by omega) ds hd h1 ds (by
   have : cs.toList.drop (0 + 10) = [] := List.drop_eq_nil_of_le (by simp; omega)
   rw [this]; simp)
theorem zR_one : zR.all (·.oneCell') = true := by kernel_rfl
set_option maxRecDepth 100000 in
set_option maxHeartbeats 3200000 in
theorem rc_choose (o : Bool) (L H S1 S2 : Array Value) (hL : L.size = 10) (hH : H.size = 10) (h1 : S1.size = 10) (h1a : S1.all (·.oneCell') = true) (h2 : S2.size = 10) (h2a : S2.all (·.oneCell') = true) (W : World) (vc b2 : Bool)
   (KV : ∀ w, Calls Tryz.prog 21 #[.agg (coneC o L H)] w (Ret (.bool vc) w)) (KO : vc = true → o = true → ∀ w, Calls Tryz.prog 17 #[.int .i64 0] w (Ret (.agg S1) w))
   (KB : vc = true → o = false → ∀ w, Calls Tryz.prog 44 #[.agg L, .agg H] w (Ret (.tuple #[.agg S2, .bool b2]) w)) :
   Calls Tryz.prog 23 #[.agg (coneC o L H)] W (Ret (.agg (if vc then (if o then S1 else S2) else zR)) W) := by
 have LD0 := fun w (h : Blk w W.heap.size 29 (coneC o L H)) => cone_loads h hL hH
 obtain ⟨X, hX⟩ : ∃ X, coneC o L H = X := ⟨_, rfl⟩
 rw [hX] at KV LD0 ⊢
 have P0 := (Blk.new W 29 X).alloc (.cells #[.bool false, .int .u64 0, .int .u64 0, .int .u64 0, .int .u64 0, .bool false, .int .u64 0, .int .u64 0, .int .u64 0, .int .u64 0] 27)
 have P1 := Blk.new (W.alloc (.cells X 29)) 27 #[.bool false, .int .u64 0, .int .u64 0, .int .u64 0, .int .u64 0, .bool false, .int .u64 0, .int .u64 0, .int .u64 0, .int .u64 0]
 have EE := hide (Ext.trans (ext_alloc W (.cells X 29)) (ext_alloc _ (.cells #[.bool false, .int .u64 0, .int .u64 0, .int .u64 0, .int .u64 0, .bool false, .int .u64 0, .int .u64 0, .int .u64 0, .int .u64 0] 27)))
 rw [alloc_size] at P1
 obtain ⟨W1, hW1⟩ : ∃ W1, (W.alloc (.cells X 29)).alloc (.cells #[.bool false, .int .u64 0, .int .u64 0, .int .u64 0, .int .u64 0, .bool false, .int .u64 0, .int .u64 0, .int .u64 0, .int .u64 0] 27) = W1 := ⟨_, rfl⟩
 obtain ⟨g, hg⟩ : ∃ g, W.heap.size = g := ⟨_, rfl⟩
 rw [hW1] at P0 P1 EE
 rw [hg] at P0 P1 LD0
 have LD := hide (fun w (h : Ext W1 w) => LD0 w (P0.ext h))
 have RB := hide (fun w (h : Ext W1 w) => P1.ext h)
 obtain ⟨k, hk⟩ : ∃ k, g + 1 = k := ⟨_, rfl⟩
 have Hk := hide hk
 rw [hk] at RB P1
 have hWk : W.heap.size ≤ k := by omega
 have HW := hide hW1
 have Hg := hide hg
 have kv := hide KV
 obtain ⟨fx0, -, -, -⟩ := LD.out W1 (Ext.refl _)
 clear hW1 hg P0 P1 LD0 hX hL hH KV hk
 cases vc with
 | false =>
   clear KO KB
   go_enter Tryz.func23, Tryz.ntmps23
   go_upto_region 1 with fail
   rw [HW.out, Hg.out, Hk.out]
   go_upto_region 2 with (first
     | (refine wl_load (by kernel_rfl) rfl rfl fx0 ?_)
     | (go_at_call 21; (with_reducible refine (kv.out _).mono ?_); rintro e w2 ⟨rfl, hE⟩; have E2 := hide hE; have st := rat_store (RB.out w2 hE) rfl (ds := zR) rfl zR_one; clear hE fx0))
   go_wp2_with (refine wl_store (by kernel_rfl) rfl rfl rfl st ?_)
   exact bodyPost_ret (results_cell_row (p := 2) (ty := 27) rfl _ _ k 27 zR (0, 0) _ rfl ((RB.out w2 E2.out).setRow zR) uRat rfl iRat) rfl ⟨rfl, ext_row (EE.out.trans E2.out) hWk _⟩
 | true =>
   have KO := KO rfl
   have KB := KB rfl
   cases o with
   | true =>
     have ko := hide (KO rfl)
     clear KO KB
     go_enter Tryz.func23, Tryz.ntmps23
     go_upto_region 1 with fail
     rw [HW.out, Hg.out, Hk.out]
     go_upto_region 4 with (first
       | (refine wl_load (by kernel_rfl) rfl rfl fx0 ?_)
       | (go_at_call 21; (with_reducible refine (kv.out _).mono ?_); rintro e w2 ⟨rfl, hE⟩; have E2 := hide hE; obtain ⟨-, fb, -, -⟩ := LD.out w2 hE; clear hE fx0))
     go_wp2_with (first
       | (refine wl_store (by kernel_rfl) rfl rfl rfl st ?_)
       | (go_at_call 17; (with_reducible refine (ko.out _).mono ?_); rintro e w3 ⟨rfl, hE⟩; have E3 := hide (Ext.trans E2.out hE); have st := rat_store (RB.out w3 E3.out) rfl h1 h1a; clear hE))
     exact bodyPost_ret (results_cell_row (p := 2) (ty := 27) rfl _ _ k 27 S1 (0, 0) _ rfl ((RB.out w3 E3.out).setRow S1) uRat rfl (by rw [iRat, h1])) rfl ⟨rfl, ext_row (EE.out.trans E3.out) hWk _⟩
   | false =>
     have kb := hide (KB rfl)
     clear KO KB
     go_enter Tryz.func23, Tryz.ntmps23
     go_upto_region 1 with fail
     rw [HW.out, Hg.out, Hk.out]
     go_upto_region 5 with (first
       | (refine wl_load (by kernel_rfl) rfl rfl fx0 ?_)
       | (go_at_call 21; (with_reducible refine (kv.out _).mono ?_); rintro e w2 ⟨rfl, hE⟩; have E2 := hide hE; obtain ⟨-, fb, fl, fh⟩ := LD.out w2 hE; clear hE fx0))
     go_upto_region 6 with (first
       | (refine wl_load (by kernel_rfl) rfl rfl fl ?_)
       | (refine wl_load (by kernel_rfl) rfl rfl fh ?_)
       | (go_at_call 44; (with_reducible refine (kb.out _).mono ?_); rintro e w3 ⟨rfl, hE⟩; have E3 := hide (Ext.trans E2.out hE); have N4 := hide (Blk.new w3 27 #[.bool false, .int .u64 0, .int .u64 0, .int .u64 0, .int .u64 0, .bool false, .int .u64 0, .int .u64 0, .int .u64 0, .int .u64 0]); have E4 := hide (Ext.trans E3.out (ext_alloc w3 (.cells #[.bool false, .int .u64 0, .int .u64 0, .int .u64 0, .int .u64 0, .bool false, .int .u64 0, .int .u64 0, .int .u64 0, .int .u64 0] 27))); have B4 := hide (RB.out _ E4.out); have hne : k ≠ w3.heap.size := Nat.ne_of_lt (RB.out w3 E3.out).lt; have st := rat_store N4.out rfl h2 h2a; clear hE fl fh)
       | (refine wl_store (by kernel_rfl) rfl rfl rfl st ?_))
     obtain ⟨w4, hw4⟩ : ∃ w, w3.alloc (.cells #[.bool false, .int .u64 0, .int .u64 0, .int .u64 0, .int .u64 0, .bool false, .int .u64 0, .int .u64 0, .int .u64 0, .int .u64 0] 27) = w := ⟨_, rfl⟩
     obtain ⟨n, hn⟩ : ∃ n, w3.heap.size = n := ⟨_, rfl⟩
     rw [hw4] at N4 E4 B4 ⊢
     rw [hn] at N4 hne ⊢
     have hnW : W.heap.size ≤ n := by have := EE.out.size; have := E3.out.size; omega
     have N5 := N4.out.setRow S2
     have B5 := B4.out.rowN (ds := S2) hne
     have E5 := hide (ext_row (EE.out.trans E4.out) hnW S2)
     obtain ⟨w5, hw5⟩ : ∃ w, w4.setRow n S2 = w := ⟨_, rfl⟩
     rw [hw5] at N5 B5 E5 ⊢
     have ld5 := rat_load N5 h2
     have st5 := rat_store B5 rfl h2 h2a
     clear hw4 hw5 hn N4 E4 B4 N5 st fb
     go_wp2_with (first
       | (refine wl_load (by kernel_rfl) rfl rfl ld5 ?_)
       | (refine wl_store (by kernel_rfl) rfl rfl rfl st5 ?_))
     exact bodyPost_ret (results_cell_row (p := 2) (ty := 27) rfl _ _ k 27 S2 (0, 0) _ rfl (B5.setRow S2) uRat rfl (by rw [iRat, h2])) rfl ⟨rfl, ext_row E5.out hWk _⟩
end
section
open Go Go.RowKit Go.Sort
theorem res_row2 {fn : Func} {p u : Tmp} {ty : TypeId} (h : fn.results = #[.cell p ty, .tmp u]) (tmps : Array Value) (w : World) (g : Nat) (t : TypeId) (cs : Array Value) (d : TypeDesc)
   (hp : tmps.getD p undef = .pointer (some ⟨g, 0, none⟩)) (hg : Blk w g t cs)
   (hu : Tryz.prog.underlying ty = some d) (hd : (match (generalizing := false) d with | .struct _ | .array _ _ => true | _ => false) = true) (hi : (Tryz.prog.info? ty).map (·.size) = some cs.size) :
   (results fn tmps).run Tryz.prog w = .ok (.tuple #[.agg cs, tmps.getD u undef]) w := by
 have hp' : tmps[p]?.getD undef = .pointer (some ⟨g, 0, none⟩) := by simpa using hp
 simp [results, h, hp', asAddr, run_loadVar_row w g t ty cs (0, 0) d hg hu (by cases d <;> first | rfl | exact hd) hi, Sem.run_bind, Result.andThen]
theorem cone_store {w : World} {g : Nat} {cs ds : Array Value} (h : Blk w g 29 cs) (hc : cs.size = 21) (hd : ds.size = 21) (h1 : ds.all (·.oneCell') = true) : (Instr.storeAt 29 (.pointer (some ⟨g, 0, none⟩)) (.agg ds)).run Tryz.prog w = .ok () (w.setRow g ds) :=
 run_store_part h _ 0 21 iCone (by omega) ds hd h1 ds (by
   have : cs.toList.drop (0 + 21) = [] := List.drop_eq_nil_of_le (by simp; omega)
   rw [this]; simp)
theorem cone_store_lo {w : World} {g : Nat} {o : Bool} {L H D : Array Value} (h : Blk w g 29 (coneC o L H)) (hL : L.size = 10) (hH : H.size = 10) (hD : D.size = 10) (h1 : D.all (·.oneCell') = true) : (Instr.storeAt 27 (.pointer (some ⟨g, 1, none⟩)) (.agg D)).run Tryz.prog w = .ok () (w.setRow g (coneC o D H)) :=
 run_store_part h _ 1 10 iRat (by rw [coneC_size o hL hH]; omega) D hD h1 _ (by
   obtain ⟨l⟩ := L
   obtain ⟨u⟩ := H
   obtain ⟨d⟩ := D
   have hl : l.length = 10 := by simpa using hL
   have hd : d.length = 10 := by simpa using hD
   simp only [coneC, Array.toList_append, List.append_assoc, List.cons_append, List.nil_append]
   rw [show (1 + 10 : Nat) = 10 + 1 from rfl, List.take_succ_cons, List.take_zero, List.drop_succ_cons, List.drop_append_of_le_length (by first | omega | (simp; omega)), List.drop_of_length_le (by first | omega | (simp; omega))]
   simp)
theorem cone_store_hi {w : World} {g : Nat} {o : Bool} {L H D : Array Value} (h : Blk w g 29 (coneC o L H)) (hL : L.size = 10) (hH : H.size = 10) (hD : D.size = 10) (h1 : D.all (·.oneCell') = true) : (Instr.storeAt 27 (.pointer (some ⟨g, 11, none⟩)) (.agg D)).run Tryz.prog w = .ok () (w.setRow g (coneC o L D)) :=
 run_store_part h _ 11 10 iRat (by rw [coneC_size o hL hH]; omega) D hD h1 _ (by
   obtain ⟨l⟩ := L
   obtain ⟨u⟩ := H
   obtain ⟨d⟩ := D
   have hl : l.length = 10 := by simpa using hL
   have hu : u.length = 10 := by simpa using hH
   simp only [coneC, Array.toList_append, List.append_assoc, List.cons_append, List.nil_append]
   rw [show (11 + 10 : Nat) = 20 + 1 from rfl, show (11 : Nat) = 10 + 1 from rfl, List.take_succ_cons, List.drop_succ_cons, List.take_append_of_le_length (by first | omega | (simp; omega)), List.take_of_length_le (by first | omega | (simp; omega)), List.drop_eq_nil_of_le (by first | omega | (simp; omega))]
   simp)
theorem z21_one : z21.all (·.oneCell') = true := by kernel_rfl
theorem cone_one (o : Bool) {L H : Array Value} (hL : L.all (·.oneCell') = true) (hH : H.all (·.oneCell') = true) : (coneC o L H).all (·.oneCell') = true := by
 rw [Array.all_eq_true_iff_forall_mem] at *
 intro x hx
 simp only [coneC, Array.mem_append] at hx
 rcases hx with (h | h) | h
 · simp at h; subst h; rfl
 · exact hL x h
 · exact hH x h
def metC (va vb oa ob : Bool) (La Ha Lb Hb : Array Value) (c1 c2 c3 : Int) : Array Value × Bool :=
 if va && vb then (if oa then (coneC ob Lb Hb, true) else if ob then (coneC false La Ha, true) else if 0 < c3 then (z21, false) else (coneC false (if 0 < c1 then Lb else La) (if c2 < 0 then Hb else Ha), true)) else (z21, false)
set_option maxRecDepth 100000 in
set_option maxHeartbeats 6400000 in
theorem rc_meet (oa ob : Bool) (La Ha Lb Hb : Array Value) (sLa : La.size = 10) (sHa : Ha.size = 10) (sLb : Lb.size = 10) (sHb : Hb.size = 10) (uLa : La.all (·.oneCell') = true) (uHa : Ha.all (·.oneCell') = true) (uLb : Lb.all (·.oneCell') = true) (uHb : Hb.all (·.oneCell') = true) (W : World) (va vb : Bool) (c1 c2 c3 : Int)
   (KA : ∀ w, Calls Tryz.prog 21 #[.agg (coneC oa La Ha)] w (Ret (.bool va) w)) (KB : va = true → ∀ w, Calls Tryz.prog 21 #[.agg (coneC ob Lb Hb)] w (Ret (.bool vb) w))
   (K1 : va = true → vb = true → oa = false → ob = false → ∀ w, Calls Tryz.prog 12 #[.agg Lb, .agg La] w (Ret (.int .i64 c1) w)) (K2 : va = true → vb = true → oa = false → ob = false → ∀ w, Calls Tryz.prog 12 #[.agg Hb, .agg Ha] w (Ret (.int .i64 c2) w))
   (K3 : va = true → vb = true → oa = false → ob = false → ∀ w, Calls Tryz.prog 12 #[.agg (if 0 < c1 then Lb else La), .agg (if c2 < 0 then Hb else Ha)] w (Ret (.int .i64 c3) w)) :
   Calls Tryz.prog 20 #[.agg (coneC oa La Ha), .agg (coneC ob Lb Hb)] W (Ret (.tuple #[.agg (metC va vb oa ob La Ha Lb Hb c1 c2 c3).1, .bool (metC va vb oa ob La Ha Lb Hb c1 c2 c3).2]) W) := by
 have szX := coneC_size oa sLa sHa
 have szY := coneC_size ob sLb sHb
 have onX := cone_one oa uLa uHa
 have onY := cone_one ob uLb uHb
 have LA := fun w (h : Blk w W.heap.size 29 (coneC oa La Ha)) => cone_loads h sLa sHa
 have LB := fun w (h : Blk w (W.heap.size + 1) 29 (coneC ob Lb Hb)) => cone_loads h sLb sHb
 obtain ⟨X, hX⟩ : ∃ X, coneC oa La Ha = X := ⟨_, rfl⟩
 obtain ⟨Y, hY⟩ : ∃ Y, coneC ob Lb Hb = Y := ⟨_, rfl⟩
 rw [hX] at KA LA szX onX ⊢
 rw [hY] at KB LB szY onY ⊢
 have P0 := ((Blk.new W 29 X).alloc (.cells Y 29)).alloc (.cells #[.bool false, .bool false, .int .u64 0, .int .u64 0, .int .u64 0, .int .u64 0, .bool false, .int .u64 0, .int .u64 0, .int .u64 0, .int .u64 0, .bool false, .int .u64 0, .int .u64 0, .int .u64 0, .int .u64 0, .bool false, .int .u64 0, .int .u64 0, .int .u64 0, .int .u64 0] 29)
 have P1 := (Blk.new (W.alloc (.cells X 29)) 29 Y).alloc (.cells #[.bool false, .bool false, .int .u64 0, .int .u64 0, .int .u64 0, .int .u64 0, .bool false, .int .u64 0, .int .u64 0, .int .u64 0, .int .u64 0, .bool false, .int .u64 0, .int .u64 0, .int .u64 0, .int .u64 0, .bool false, .int .u64 0, .int .u64 0, .int .u64 0, .int .u64 0] 29)
 have P2 := Blk.new ((W.alloc (.cells X 29)).alloc (.cells Y 29)) 29 #[.bool false, .bool false, .int .u64 0, .int .u64 0, .int .u64 0, .int .u64 0, .bool false, .int .u64 0, .int .u64 0, .int .u64 0, .int .u64 0, .bool false, .int .u64 0, .int .u64 0, .int .u64 0, .int .u64 0, .bool false, .int .u64 0, .int .u64 0, .int .u64 0, .int .u64 0]
 have EE := hide (Ext.trans (Ext.trans (ext_alloc W (.cells X 29)) (ext_alloc _ (.cells Y 29))) (ext_alloc _ (.cells #[.bool false, .bool false, .int .u64 0, .int .u64 0, .int .u64 0, .int .u64 0, .bool false, .int .u64 0, .int .u64 0, .int .u64 0, .int .u64 0, .bool false, .int .u64 0, .int .u64 0, .int .u64 0, .int .u64 0, .bool false, .int .u64 0, .int .u64 0, .int .u64 0, .int .u64 0] 29)))
 rw [alloc_size] at P1 P2
 rw [alloc_size] at P2
 obtain ⟨W1, hW1⟩ : ∃ W1, ((W.alloc (.cells X 29)).alloc (.cells Y 29)).alloc (.cells #[.bool false, .bool false, .int .u64 0, .int .u64 0, .int .u64 0, .int .u64 0, .bool false, .int .u64 0, .int .u64 0, .int .u64 0, .int .u64 0, .bool false, .int .u64 0, .int .u64 0, .int .u64 0, .int .u64 0, .bool false, .int .u64 0, .int .u64 0, .int .u64 0, .int .u64 0] 29) = W1 := ⟨_, rfl⟩
 obtain ⟨g, hg⟩ : ∃ g, W.heap.size = g := ⟨_, rfl⟩
 rw [hW1] at P0 P1 P2 EE
 rw [hg] at P0 P1 P2 LA LB
 obtain ⟨b, hb⟩ : ∃ b, g + 1 = b := ⟨_, rfl⟩
 rw [hb] at P1 P2 LB
 obtain ⟨k, hk⟩ : ∃ k, b + 1 = k := ⟨_, rfl⟩
 rw [hk] at P2
 have hWk : W.heap.size ≤ k := by omega
 have hWg : W.heap.size ≤ g := by omega
 have hgb : b ≠ g := by omega
 have hgk : k ≠ g := by omega
 have HW := hide hW1
 have Hg := hide hg
 have HbE := hide hb
 have Hk := hide hk
 have LD := hide (fun w (h : Ext W1 w) => And.intro (LA w (P0.ext h)).1 (And.intro (LA w (P0.ext h)).2.1 (And.intro (LA w (P0.ext h)).2.2.1 (And.intro (LA w (P0.ext h)).2.2.2 (LB w (P1.ext h))))))
 have RB := hide (fun w (h : Ext W1 w) => P2.ext h)
 have PA := hide (fun w (h : Ext W1 w) => P0.ext h)
 have PB := hide (fun w (h : Ext W1 w) => P1.ext h)
 obtain ⟨fx0, -, -, -, -, -, -, -⟩ := LD.out W1 (Ext.refl _)
 have ka := hide KA
 clear hW1 hg hb hk P0 P1 P2 LA LB KA
 cases va with
 | false =>
   clear KB K1 K2 K3
   go_enter Tryz.func20, Tryz.ntmps20
   go_upto_region 1 with fail
   rw [HW.out, Hg.out, HbE.out, Hk.out]
   go_upto_region 2 with (first
     | (refine wl_load (by kernel_rfl) rfl rfl fx0 ?_)
     | (go_at_call 21; (with_reducible refine (ka.out _).mono ?_); rintro e w2 ⟨rfl, hE⟩; have E2 := hide hE; have st := cone_store (RB.out w2 hE) rfl (ds := z21) rfl z21_one; clear hE fx0))
   go_wp2_with (refine wl_store (by kernel_rfl) rfl rfl rfl st ?_)
   exact bodyPost_ret (res_row2 (p := 4) (u := 5) (ty := 29) rfl _ _ k 29 z21 _ rfl ((RB.out w2 E2.out).setRow z21) uCone rfl iCone) rfl ⟨rfl, ext_row (EE.out.trans E2.out) hWk _⟩
 | true =>
   have kb := hide (KB rfl)
   clear KB
   cases vb with
   | false =>
     clear K1 K2 K3
     go_enter Tryz.func20, Tryz.ntmps20
     go_upto_region 1 with fail
     rw [HW.out, Hg.out, HbE.out, Hk.out]
     go_upto_region 2 with (first
       | (refine wl_load (by kernel_rfl) rfl rfl fx0 ?_)
       | (refine wl_load (by kernel_rfl) rfl rfl fy ?_)
       | (go_at_call 21; (with_reducible refine (ka.out _).mono ?_); rintro e w2 ⟨rfl, hE⟩; have E2 := hide hE; obtain ⟨-, -, -, -, fy, -, -, -⟩ := LD.out w2 hE; clear hE fx0)
       | (go_at_call 21; (with_reducible refine (kb.out _).mono ?_); rintro e w3 ⟨rfl, hE⟩; have E3 := hide (Ext.trans E2.out hE); have st := cone_store (RB.out w3 E3.out) rfl (ds := z21) rfl z21_one; clear hE fy))
     go_wp2_with (refine wl_store (by kernel_rfl) rfl rfl rfl st ?_)
     exact bodyPost_ret (res_row2 (p := 4) (u := 5) (ty := 29) rfl _ _ k 29 z21 _ rfl ((RB.out w3 E3.out).setRow z21) uCone rfl iCone) rfl ⟨rfl, ext_row (EE.out.trans E3.out) hWk _⟩
   | true =>
     cases oa with
     | true =>
       clear K1 K2 K3
       go_enter Tryz.func20, Tryz.ntmps20
       go_upto_region 1 with fail
       rw [HW.out, Hg.out, HbE.out, Hk.out]
       go_upto_region 4 with (first
       | (refine wl_load (by kernel_rfl) rfl rfl fx0 ?_)
       | (refine wl_load (by kernel_rfl) rfl rfl fy ?_)
       | (go_at_call 21; (with_reducible refine (ka.out _).mono ?_); rintro e w2 ⟨rfl, hE⟩; have E2 := hide hE; obtain ⟨-, -, -, -, fy, -, -, -⟩ := LD.out w2 hE; clear hE fx0)
       | (go_at_call 21; (with_reducible refine (kb.out _).mono ?_); rintro e w3 ⟨rfl, hE⟩; have E3 := hide (Ext.trans E2.out hE); obtain ⟨-, fo, -, -, fy3, -, -, -⟩ := LD.out w3 E3.out; have st := cone_store (RB.out w3 E3.out) rfl szY onY; clear hE fy))
       go_wp2_with (first
         | (refine wl_load (by kernel_rfl) rfl rfl fy3 ?_)
         | (refine wl_store (by kernel_rfl) rfl rfl rfl st ?_))
       refine bodyPost_ret (res_row2 (p := 4) (u := 5) (ty := 29) rfl _ _ k 29 Y _ rfl ((RB.out w3 E3.out).setRow Y) uCone rfl (by rw [iCone, szY])) rfl ⟨?_, ext_row (EE.out.trans E3.out) hWk _⟩
       rw [← hY]; rfl
     | false =>
       have K1 := K1 rfl rfl rfl
       have K2 := K2 rfl rfl rfl
       have K3 := K3 rfl rfl rfl
       cases ob with
       | true =>
         clear K1 K2 K3
         go_enter Tryz.func20, Tryz.ntmps20
         go_upto_region 1 with fail
         rw [HW.out, Hg.out, HbE.out, Hk.out]
         go_upto_region 6 with (first
         | (refine wl_load (by kernel_rfl) rfl rfl fx0 ?_)
         | (refine wl_load (by kernel_rfl) rfl rfl fy ?_)
         | (go_at_call 21; (with_reducible refine (ka.out _).mono ?_); rintro e w2 ⟨rfl, hE⟩; have E2 := hide hE; obtain ⟨-, -, -, -, fy, -, -, -⟩ := LD.out w2 hE; clear hE fx0)
         | (go_at_call 21; (with_reducible refine (kb.out _).mono ?_); rintro e w3 ⟨rfl, hE⟩; have E3 := hide (Ext.trans E2.out hE); obtain ⟨fx3, fo, -, -, -, fob, -, -⟩ := LD.out w3 E3.out; have st := cone_store (RB.out w3 E3.out) rfl szX onX; clear hE fy))
         go_wp2_with (first
           | (refine wl_load (by kernel_rfl) rfl rfl fx3 ?_)
           | (refine wl_store (by kernel_rfl) rfl rfl rfl st ?_))
         refine bodyPost_ret (res_row2 (p := 4) (u := 5) (ty := 29) rfl _ _ k 29 X _ rfl ((RB.out w3 E3.out).setRow X) uCone rfl (by rw [iCone, szX])) rfl ⟨?_, ext_row (EE.out.trans E3.out) hWk _⟩
         rw [← hX]; rfl
       | false =>
         have k1 := hide (K1 rfl)
         have k2 := hide (K2 rfl)
         have k3 := hide (K3 rfl)
         clear K1 K2 K3
         obtain ⟨L1, hL1⟩ : ∃ L1, (if 0 < c1 then Lb else La) = L1 := ⟨_, rfl⟩
         obtain ⟨H1, hH1⟩ : ∃ H1, (if c2 < 0 then Hb else Ha) = H1 := ⟨_, rfl⟩
         rw [hL1, hH1] at k3
         have sL1 : L1.size = 10 := by rw [← hL1]; split <;> assumption
         have sH1 : H1.size = 10 := by rw [← hH1]; split <;> assumption
         have uL1 : L1.all (·.oneCell') = true := by rw [← hL1]; split <;> assumption
         have uH1 : H1.all (·.oneCell') = true := by rw [← hH1]; split <;> assumption
         go_enter Tryz.func20, Tryz.ntmps20
         go_upto_region 1 with fail
         rw [HW.out, Hg.out, HbE.out, Hk.out]
         go_upto_region 7 with (first
         | (refine wl_load (by kernel_rfl) rfl rfl fx0 ?_)
         | (refine wl_load (by kernel_rfl) rfl rfl fy ?_)
         | (go_at_call 21; (with_reducible refine (ka.out _).mono ?_); rintro e w2 ⟨rfl, hE⟩; have E2 := hide hE; obtain ⟨-, -, -, -, fy, -, -, -⟩ := LD.out w2 hE; clear hE fx0)
         | (go_at_call 21; (with_reducible refine (kb.out _).mono ?_); rintro e w3 ⟨rfl, hE⟩; have E3 := hide (Ext.trans E2.out hE); obtain ⟨-, fo, fla, -, -, fob, flb, -⟩ := LD.out w3 E3.out; clear hE fy))
         clear fo fob
         go_upto_if 26 with (first
           | (refine wl_load (by kernel_rfl) rfl rfl fla ?_)
           | (refine wl_load (by kernel_rfl) rfl rfl flb ?_)
           | (go_at_call 12; (with_reducible refine (k1.out _).mono ?_); rintro e w4 ⟨rfl, hE⟩; have E4 := hide (Ext.trans E3.out hE); clear hE fla flb))
         obtain ⟨-, -, -, -, -, -, flb4, -⟩ := LD.out w4 E4.out
         have st4 := cone_store_lo (o := false) (hX ▸ PA.out w4 E4.out) sLa sHa sLb uLb
         have F4 : Hid (Blk w4 g 29 (coneC false La Ha) ∧ Blk w4 b 29 (coneC false Lb Hb) ∧ Blk w4 k 29 z21 ∧ Ext W w4) := hide ⟨hX ▸ PA.out w4 E4.out, hY ▸ PB.out w4 E4.out, RB.out w4 E4.out, EE.out.trans E4.out⟩
         clear ka kb k1 LD RB PA PB
         go_cut [] from 26 (fun wx => Hid (Blk wx g 29 (coneC false L1 Ha) ∧ Blk wx b 29 (coneC false Lb Hb) ∧ Blk wx k 29 z21 ∧ Ext W wx))
         case first =>
           by_cases h1 : 0 < c1
           · simp only [h1, decide_true, if_true] at hL1 ⊢
             subst hL1
             go_wp2_with (first
               | (refine wl_load (by kernel_rfl) rfl rfl flb4 ?_)
               | (refine wl_store (by kernel_rfl) rfl rfl rfl st4 ?_))
             go_meet
             case rel => exact hide ⟨F4.out.1.setRow _, F4.out.2.1.rowN hgb, F4.out.2.2.1.rowN hgk, ext_row F4.out.2.2.2 hWg _⟩
           · simp only [h1, decide_false, if_false] at hL1 ⊢
             subst hL1
             go_wp2_with fail
             go_meet
             case rel => exact F4
         case rest =>
         clear st4 flb4 F4 E4
         obtain ⟨-, -, -, fh⟩ := cone_loads hcut.out.1 sL1 sHa
         obtain ⟨-, -, -, fhb⟩ := cone_loads hcut.out.2.1 sLb sHb
         go_upto_if 35 with (first
           | (refine wl_load (by kernel_rfl) rfl rfl fh ?_)
           | (refine wl_load (by kernel_rfl) rfl rfl fhb ?_)
           | (go_at_call 12; (with_reducible refine (k2.out _).mono ?_); rintro e w5 ⟨rfl, hE⟩; have E5 := hide hE; clear hE fh fhb))
         obtain ⟨-, -, -, fhb5⟩ := cone_loads (hcut.out.2.1.ext E5.out) sLb sHb
         have st5 := cone_store_hi (hcut.out.1.ext E5.out) sL1 sHa sHb uHb
         have F5 : Hid (Blk w5 g 29 (coneC false L1 Ha) ∧ Blk w5 b 29 (coneC false Lb Hb) ∧ Blk w5 k 29 z21 ∧ Ext W w5) := hide ⟨hcut.out.1.ext E5.out, hcut.out.2.1.ext E5.out, hcut.out.2.2.1.ext E5.out, hcut.out.2.2.2.trans E5.out⟩
         clear k2 E5 hcut
         go_cut [] from 35 (fun wx => Hid (Blk wx g 29 (coneC false L1 H1) ∧ Blk wx b 29 (coneC false Lb Hb) ∧ Blk wx k 29 z21 ∧ Ext W wx))
         case first =>
           by_cases h2 : c2 < 0
           · simp only [h2, decide_true, if_true] at hH1 ⊢
             subst hH1
             go_wp2_with (first
               | (refine wl_load (by kernel_rfl) rfl rfl fhb5 ?_)
               | (refine wl_store (by kernel_rfl) rfl rfl rfl st5 ?_))
             go_meet
             case rel => exact hide ⟨F5.out.1.setRow _, F5.out.2.1.rowN hgb, F5.out.2.2.1.rowN hgk, ext_row F5.out.2.2.2 hWg _⟩
           · simp only [h2, decide_false, if_false] at hH1 ⊢
             subst hH1
             go_wp2_with fail
             go_meet
             case rel => exact F5
         case rest =>
         clear st5 fhb5 F5
         obtain ⟨-, -, f1, f2⟩ := cone_loads hcut.out.1 sL1 sH1
         go_upto_if 44 with (first
           | (refine wl_load (by kernel_rfl) rfl rfl f1 ?_)
           | (refine wl_load (by kernel_rfl) rfl rfl f2 ?_)
           | (go_at_call 12; (with_reducible refine (k3.out _).mono ?_); rintro e w6 ⟨rfl, hE⟩; have E6 := hide hE; clear hE f1 f2))
         have szZ : (coneC false L1 H1).size = 21 := coneC_size false sL1 sH1
         have fz := (cone_loads (hcut.out.1.ext E6.out) sL1 sH1).1
         have sz0 := cone_store (hcut.out.2.2.1.ext E6.out) rfl (ds := z21) rfl z21_one
         have sz1 := cone_store (hcut.out.2.2.1.ext E6.out) rfl szZ (cone_one false uL1 uH1)
         by_cases h3 : 0 < c3
         · simp only [h3, decide_true]
           rw [show metC true true false false La Ha Lb Hb c1 c2 c3 = (z21, false) from by simp [metC, h3]]
           go_wp2_with (refine wl_store (by kernel_rfl) rfl rfl rfl sz0 ?_)
           exact bodyPost_ret (res_row2 (p := 4) (u := 5) (ty := 29) rfl _ _ k 29 z21 _ rfl ((hcut.out.2.2.1.ext E6.out).setRow z21) uCone rfl iCone) rfl ⟨rfl, ext_row (hcut.out.2.2.2.trans E6.out) hWk _⟩
         · simp only [h3, decide_false]
           go_wp2_with (first
             | (refine wl_load (by kernel_rfl) rfl rfl fz ?_)
             | (refine wl_store (by kernel_rfl) rfl rfl rfl sz1 ?_))
           exact bodyPost_ret (res_row2 (p := 4) (u := 5) (ty := 29) rfl _ _ k 29 (coneC false L1 H1) _ rfl ((hcut.out.2.2.1.ext E6.out).setRow _) uCone rfl (by rw [iCone, szZ])) rfl ⟨by rw [show metC true true false false La Ha Lb Hb c1 c2 c3 = (coneC false L1 H1, true) from by simp [metC, h3, hL1, hH1]]; rfl, ext_row (hcut.out.2.2.2.trans E6.out) hWk _⟩
end
section
open Go Go.RowKit
theorem wideRet_yes {z : Int} {w w' : World} {s : Bool} {a b c d : Nat} (hf : z.natAbs < 115792089237316195423570985008687907853269984665640564039457584007913129639936) (hC : IsC s a b c d z) (hE : Ext w w') :
   WideRet z w (.returned (.tuple #[.agg #[.bool s, .int .u64 (a : Int), .int .u64 (b : Int), .int .u64 (c : Int), .int .u64 (d : Int)], .bool true])) w' :=
 ⟨s, a, b, c, d, true, rfl, (decide_eq_true hf).symm, by rw [if_pos hf]; exact hC, hE⟩
theorem wideRet_no {z : Int} {w w' : World} (hf : ¬ z.natAbs < 115792089237316195423570985008687907853269984665640564039457584007913129639936) (hE : Ext w w') :
   WideRet z w (.returned (.tuple #[.agg #[.bool false, .int .u64 0, .int .u64 0, .int .u64 0, .int .u64 0], .bool false])) w' :=
 ⟨false, 0, 0, 0, 0, false, rfl, (decide_eq_false hf).symm, by rw [if_neg hf]; exact ⟨⟨by omega, by omega, by omega, by omega, by simp [mag4, val]⟩, by simp⟩, hE⟩
theorem IsC.fits {s : Bool} {a b c d : Nat} {z : Int} (h : IsW s a b c d z) : z.natAbs < 115792089237316195423570985008687907853269984665640564039457584007913129639936 := by
 rw [← h.abs]; exact mag_lt h.1 h.2.1 h.2.2.1 h.2.2.2.1
set_option maxHeartbeats 4000000 in
theorem p_wadd_same (s : Bool) (a b c d e f g h : Nat) (x y : Int) (w : World) (hx : IsW s a b c d x) (hy : IsW s e f g h y) :
   Calls Tryz.prog 35 #[.agg #[.bool s, .int .u64 (a : Int), .int .u64 (b : Int), .int .u64 (c : Int), .int .u64 (d : Int)], .agg #[.bool s, .int .u64 (e : Int), .int .u64 (f : Int), .int .u64 (g : Int), .int .u64 (h : Int)]] w (WideRet (x + y) w) := by
 obtain ⟨W, hW⟩ : ∃ W, W = (((w.alloc (.cells #[.bool s, .int .u64 (a : Int), .int .u64 (b : Int), .int .u64 (c : Int), .int .u64 (d : Int)] 25)).alloc (.cells #[.bool s, .int .u64 (e : Int), .int .u64 (f : Int), .int .u64 (g : Int), .int .u64 (h : Int)] 25)).alloc (.cells #[.bool false, .int .u64 0, .int .u64 0, .int .u64 0, .int .u64 0] 25)) := ⟨_, rfl⟩
 have H3 := three_boxes w (.cells #[.bool s, .int .u64 (a : Int), .int .u64 (b : Int), .int .u64 (c : Int), .int .u64 (d : Int)] 25) (.cells #[.bool s, .int .u64 (e : Int), .int .u64 (f : Int), .int .u64 (g : Int), .int .u64 (h : Int)] 25) (.cells #[.bool false, .int .u64 0, .int .u64 0, .int .u64 0, .int .u64 0] 25)
 rw [← hW] at H3
 have B0 : Box W w.heap.size s a b c d := H3.1
 have B1 : Box W (w.heap.size + 1) s e f g h := H3.2.1
 have B2 : Box W (w.heap.size + 1 + 1) false 0 0 0 0 := H3.2.2
 have E0 : Ext w W := by rw [hW]; exact ((ext_alloc _ _).trans (ext_alloc _ _)).trans (ext_alloc _ _)
 have HW := hide hW
 clear hW H3
 obtain ⟨n, hn⟩ : ∃ n, x.natAbs = n := ⟨_, rfl⟩
 obtain ⟨m, hm⟩ : ∃ m, y.natAbs = m := ⟨_, rfl⟩
 have MX : Hid (mag4 a b c d = n) := by rw [← hn]; exact hx.abs
 have MY : Hid (mag4 e f g h = m) := by rw [← hm]; exact hy.abs
 have wx := hx.w64
 have wy := hy.w64
 have SZ : Hid ((if s then -((n + m : Nat) : Int) else ((n + m : Nat) : Int)) = x + y ∧ (x + y).natAbs = n + m) := by
   have h1 := hx.2.2.2.2
   have h2 := hy.2.2.2.2
   rw [MX.out] at h1
   rw [MY.out] at h2
   unfold Hid
   cases s <;> simp only [Bool.false_eq_true, if_false, if_true] at h1 h2 ⊢ <;> omega
 clear hn hm hx hy
 obtain ⟨c0, c1, c2, c3, c4, f0, f1, f2, f3, f4⟩ := five_cells B0
 obtain ⟨d0, d1, d2, d3, d4, g0, g1, g2, g3, g4⟩ := five_cells B1
 by_cases hf : n + m < 115792089237316195423570985008687907853269984665640564039457584007913129639936
 · have HO : Hid (decide (n + m < 115792089237316195423570985008687907853269984665640564039457584007913129639936) = true) := decide_eq_true hf
   have HM : Hid ((n + m) % 115792089237316195423570985008687907853269984665640564039457584007913129639936 = n + m) := Nat.mod_eq_of_lt hf
   have HF : Hid ((x + y).natAbs < 115792089237316195423570985008687907853269984665640564039457584007913129639936) := by rw [SZ.out.2]; exact hf
   clear hf
   go_enter Tryz.func35, Tryz.ntmps35
   go_upto_region 1 with fail
   rw [← HW.out]
   clear HW
   go_wp2_with (first
     | (go_at_call 60; refine (p_addWords a b c d e f g h n m MX.out MY.out _ wx wy).mono ?_; rintro e' w' ⟨a1, b1, c1', d1', rfl, hw1, hm1, hE⟩; rw [HO.out]; rw [HM.out] at hm1; have hm1 := hide hm1; have R0 := B0.ext hE; have R2 := B2.ext hE; obtain ⟨c0, c1, c2, c3, c4, f0, f1, f2, f3, f4⟩ := five_cells R0; have l0 := R0.lt; have l2 := R2.lt; have E1 := E0.trans hE; clear hE)
     | (go_at_call 59; refine (p_signed s a1 b1 c1' d1' _ (w64_four hw1).1 (w64_four hw1).2.1 (w64_four hw1).2.2.1 (w64_four hw1).2.2.2).mono ?_; rintro e' w' ⟨s', a', b', c', d', rfl, hC, hE⟩; rw [hm1.out, SZ.out.1] at hC; have E1 := (E1.trans (ext_alloc _ _)).trans hE; have R3 := (R2.ext (ext_alloc _ _)).ext hE; obtain ⟨d0, d1, d2, d3, d4, g0, g1, g2, g3, g4⟩ := five_cells R3; clear hE))
   all_goals exact bodyPost_ret (v := .tuple #[.agg #[.bool s', .int .u64 (a' : Int), .int .u64 (b' : Int), .int .u64 (c' : Int), .int .u64 (d' : Int)], .bool true]) (by simp [results, Tryz.results35, go_sem, d0, d1, d2, d3, d4]) rfl (wideRet_yes HF.out hC (ext_five E1 (by omega) _ _ _ _ _))
 · have HO : Hid (decide (n + m < 115792089237316195423570985008687907853269984665640564039457584007913129639936) = false) := decide_eq_false hf
   have HF : Hid (¬ (x + y).natAbs < 115792089237316195423570985008687907853269984665640564039457584007913129639936) := by rw [SZ.out.2]; exact hf
   clear hf
   go_enter Tryz.func35, Tryz.ntmps35
   go_upto_region 1 with fail
   rw [← HW.out]
   clear HW
   go_wp2_with (go_at_call 60; refine (p_addWords a b c d e f g h n m MX.out MY.out _ wx wy).mono ?_; rintro e' w' ⟨a1, b1, c1', d1', rfl, hw1, hm1, hE⟩; rw [HO.out]; have hm1 := hide hm1; have R2 := B2.ext hE; have l2 := R2.lt; obtain ⟨d0, d1, d2, d3, d4, g0, g1, g2, g3, g4⟩ := five_cells R2; have E1 := E0.trans hE; clear hE)
   all_goals exact bodyPost_ret (v := .tuple #[.agg #[.bool false, .int .u64 0, .int .u64 0, .int .u64 0, .int .u64 0], .bool false]) (by simp [results, Tryz.results35, go_sem, d0, d1, d2, d3, d4, l2]) rfl (wideRet_no HF.out ((ext_five E1 (by omega) _ _ _ _ _).trans (ext_alloc _ _)))
set_option maxHeartbeats 4000000 in
theorem p_wadd_other (s : Bool) (a b c d e f g h : Nat) (x y : Int) (w : World) (hx : IsW s a b c d x) (hy : IsW (!s) e f g h y) :
   Calls Tryz.prog 35 #[.agg #[.bool s, .int .u64 (a : Int), .int .u64 (b : Int), .int .u64 (c : Int), .int .u64 (d : Int)], .agg #[.bool (!s), .int .u64 (e : Int), .int .u64 (f : Int), .int .u64 (g : Int), .int .u64 (h : Int)]] w (WideRet (x + y) w) := by
 obtain ⟨t, ht⟩ : ∃ t, t = !s := ⟨_, rfl⟩
 rw [← ht] at hy ⊢
 obtain ⟨W, hW⟩ : ∃ W, W = (((w.alloc (.cells #[.bool s, .int .u64 (a : Int), .int .u64 (b : Int), .int .u64 (c : Int), .int .u64 (d : Int)] 25)).alloc (.cells #[.bool t, .int .u64 (e : Int), .int .u64 (f : Int), .int .u64 (g : Int), .int .u64 (h : Int)] 25)).alloc (.cells #[.bool false, .int .u64 0, .int .u64 0, .int .u64 0, .int .u64 0] 25)) := ⟨_, rfl⟩
 have H3 := three_boxes w (.cells #[.bool s, .int .u64 (a : Int), .int .u64 (b : Int), .int .u64 (c : Int), .int .u64 (d : Int)] 25) (.cells #[.bool t, .int .u64 (e : Int), .int .u64 (f : Int), .int .u64 (g : Int), .int .u64 (h : Int)] 25) (.cells #[.bool false, .int .u64 0, .int .u64 0, .int .u64 0, .int .u64 0] 25)
 rw [← hW] at H3
 have B0 : Box W w.heap.size s a b c d := H3.1
 have B1 : Box W (w.heap.size + 1) t e f g h := H3.2.1
 have B2 : Box W (w.heap.size + 1 + 1) false 0 0 0 0 := H3.2.2
 have E0 : Ext w W := by rw [hW]; exact ((ext_alloc _ _).trans (ext_alloc _ _)).trans (ext_alloc _ _)
 have HW := hide hW
 clear hW H3
 obtain ⟨n, hn⟩ : ∃ n, x.natAbs = n := ⟨_, rfl⟩
 obtain ⟨m, hm⟩ : ∃ m, y.natAbs = m := ⟨_, rfl⟩
 have MX : Hid (mag4 a b c d = n) := by rw [← hn]; exact hx.abs
 have MY : Hid (mag4 e f g h = m) := by rw [← hm]; exact hy.abs
 have wx := hx.w64
 have wy := hy.w64
 have bn := IsC.fits hx
 have bm := IsC.fits hy
 rw [hn] at bn
 rw [hm] at bm
 have h1 := hx.2.2.2.2
 have h2 := hy.2.2.2.2
 rw [MX.out] at h1
 rw [MY.out] at h2
 have HF : Hid ((x + y).natAbs < 115792089237316195423570985008687907853269984665640564039457584007913129639936) := by
   unfold Hid; subst ht; cases s <;> simp only [Bool.false_eq_true, if_false, if_true, Bool.not_false, Bool.not_true] at h1 h2 <;> omega
 have SN : Hid (m ≤ n → (if s then -((n - m : Nat) : Int) else ((n - m : Nat) : Int)) = x + y) := by
   intro h3; subst ht; cases s <;> simp only [Bool.false_eq_true, if_false, if_true, Bool.not_false, Bool.not_true] at h1 h2 ⊢ <;> omega
 have SM : Hid (n < m → (if t then -((m - n : Nat) : Int) else ((m - n : Nat) : Int)) = x + y) := by
   intro h3; subst ht; cases s <;> simp only [Bool.false_eq_true, if_false, if_true, Bool.not_false, Bool.not_true] at h1 h2 ⊢ <;> omega
 have hst : (s == t) = false := by subst ht; cases s <;> rfl
 clear hn hm hx hy h1 h2 bn bm ht
 obtain ⟨c0, c1, c2, c3, c4, f0, f1, f2, f3, f4⟩ := five_cells B0
 obtain ⟨d0, d1, d2, d3, d4, g0, g1, g2, g3, g4⟩ := five_cells B1
 by_cases hlt : n < m
 · have HS : Hid (sgnN n m = -1) := if_pos hlt
   have SZ := hide (SM.out hlt)
   have hle : m - n ≤ m := by omega
   clear SN SM
   go_enter Tryz.func35, Tryz.ntmps35
   go_upto_region 1 with fail
   rw [← HW.out]
   clear HW
   go_upto_if 33 with (go_at_call 61; refine (p_cmpWords a b c d e f g h n m MX.out MY.out _ wx wy).mono ?_; rintro e' w' ⟨rfl, hE⟩; rw [HS.out]; have R0 := B0.ext hE; have R1 := B1.ext hE; have R2 := B2.ext hE; have E1 := E0.trans hE; clear hE; obtain ⟨c0, c1, c2, c3, c4, f0, f1, f2, f3, f4⟩ := five_cells R0; obtain ⟨d0, d1, d2, d3, d4, g0, g1, g2, g3, g4⟩ := five_cells R1)
   go_cut [] (fun wx => Box wx w.heap.size t e f g h ∧ Box wx (w.heap.size + 1) s a b c d ∧ Box wx (w.heap.size + 1 + 1) false 0 0 0 0 ∧ Ext w wx)
   case first =>
     go_wp2_with fail
     all_goals go_meet
     all_goals exact ⟨(R0.put).far (by omega) _ _ _ _ _, (R1.far (by omega) _ _ _ _ _).put, (R2.far (by omega) _ _ _ _ _).far (by omega) _ _ _ _ _, ext_five (ext_five E1 (Nat.le_refl _) _ _ _ _ _) (by omega) _ _ _ _ _⟩
   case rest =>
     clear B0 B1 B2 E0 R0 R1 R2 E1
     obtain ⟨B0, B1, B2, E0⟩ := hcut
     obtain ⟨c0, c1, c2, c3, c4, f0, f1, f2, f3, f4⟩ := five_cells B0
     obtain ⟨d0, d1, d2, d3, d4, g0, g1, g2, g3, g4⟩ := five_cells B1
     go_wp2_with fail
     go_region_with (first
       | (go_at_call 62; refine (p_subWords e f g h a b c d m n MY.out MX.out _ wy wx (Nat.le_of_lt hlt)).mono ?_; rintro e' w' ⟨a1, b1, c1', d1', rfl, hw1, hm1, hE⟩; have hm1 := hide hm1; have R0 := B0.drew.ext hE; have R2 := B2.drew.ext hE; obtain ⟨c0, c1, c2, c3, c4, f0, f1, f2, f3, f4⟩ := five_cells R0; have E1 := (E0.trans (ext_drew _)).trans hE; clear hE)
       | (go_at_call 59; refine (p_signed t a1 b1 c1' d1' _ (w64_four hw1).1 (w64_four hw1).2.1 (w64_four hw1).2.2.1 (w64_four hw1).2.2.2).mono ?_; rintro e' w' ⟨s', a', b', c', d', rfl, hC, hE⟩; rw [hm1.out, SZ.out] at hC; have E2 := E1.trans hE; have R3 := R2.ext hE; obtain ⟨i0, i1, i2, i3, i4, j0, j1, j2, j3, j4⟩ := five_cells R3; clear hE))
     all_goals go_wp2_with fail
     all_goals exact bodyPost_ret (v := .tuple #[.agg #[.bool s', .int .u64 (a' : Int), .int .u64 (b' : Int), .int .u64 (c' : Int), .int .u64 (d' : Int)], .bool true]) (by simp [results, Tryz.results35, go_sem, i0, i1, i2, i3, i4]) rfl (wideRet_yes HF.out hC (ext_five E2 (by omega) _ _ _ _ _))
 · have hle : m ≤ n := by omega
   have h01 : (0 : Int) ≤ sgnN n m := by unfold sgnN; rw [if_neg hlt]; split <;> omega
   obtain ⟨q, hq⟩ : ∃ q, sgnN n m = q := ⟨_, rfl⟩
   rw [hq] at h01
   have HS := hide hq
   have SZ := hide (SN.out hle)
   clear SN SM hlt hq
   go_enter Tryz.func35, Tryz.ntmps35
   go_upto_region 1 with fail
   rw [← HW.out]
   clear HW
   go_wp2_with (go_at_call 61; refine (p_cmpWords a b c d e f g h n m MX.out MY.out _ wx wy).mono ?_; rintro e' w' ⟨rfl, hE⟩; rw [HS.out]; have R0 := B0.ext hE; have R1 := B1.ext hE; have R2 := B2.ext hE; have E1 := E0.trans hE; clear hE; obtain ⟨c0, c1, c2, c3, c4, f0, f1, f2, f3, f4⟩ := five_cells R0; obtain ⟨d0, d1, d2, d3, d4, g0, g1, g2, g3, g4⟩ := five_cells R1)
   clear B0 B1 B2 E0
   go_region_with (first
     | (go_at_call 62; refine (p_subWords a b c d e f g h n m MX.out MY.out _ wx wy hle).mono ?_; rintro e' w' ⟨a1, b1, c1', d1', rfl, hw1, hm1, hE⟩; have hm1 := hide hm1; have R0' := R0.drew.ext hE; have R2' := R2.drew.ext hE; obtain ⟨c0, c1, c2, c3, c4, f0, f1, f2, f3, f4⟩ := five_cells R0'; have E1' := (E1.trans (ext_drew _)).trans hE; clear hE)
     | (go_at_call 59; refine (p_signed s a1 b1 c1' d1' _ (w64_four hw1).1 (w64_four hw1).2.1 (w64_four hw1).2.2.1 (w64_four hw1).2.2.2).mono ?_; rintro e' w' ⟨s', a', b', c', d', rfl, hC, hE⟩; rw [hm1.out, SZ.out] at hC; have E2 := E1'.trans hE; have R3 := R2'.ext hE; obtain ⟨i0, i1, i2, i3, i4, j0, j1, j2, j3, j4⟩ := five_cells R3; clear hE))
   all_goals go_wp2_with fail
   all_goals exact bodyPost_ret (v := .tuple #[.agg #[.bool s', .int .u64 (a' : Int), .int .u64 (b' : Int), .int .u64 (c' : Int), .int .u64 (d' : Int)], .bool true]) (by simp [results, Tryz.results35, go_sem, i0, i1, i2, i3, i4]) rfl (wideRet_yes HF.out hC (ext_five E2 (by omega) _ _ _ _ _))
theorem p_wadd (s t : Bool) (a b c d e f g h : Nat) (x y : Int) (w : World) (hx : IsW s a b c d x) (hy : IsW t e f g h y) :
   Calls Tryz.prog 35 #[.agg #[.bool s, .int .u64 (a : Int), .int .u64 (b : Int), .int .u64 (c : Int), .int .u64 (d : Int)], .agg #[.bool t, .int .u64 (e : Int), .int .u64 (f : Int), .int .u64 (g : Int), .int .u64 (h : Int)]] w (WideRet (x + y) w) := by
 by_cases h1 : t = s
 · subst h1; exact p_wadd_same _ a b c d e f g h x y w hx hy
 · obtain rfl : t = !s := by cases s <;> cases t <;> simp at h1 ⊢
   exact p_wadd_other s a b c d e f g h x y w hx hy
end
section
open Go Go.RowKit
def MulRel (p q : List Nat) (f : Nat) (os : List Nat) (k c : Nat) : Prop := os.length = p.length ∧ os.drop k = p.drop k ∧ c < 18446744073709551616 ∧ val (os.take k) + 18446744073709551616 ^ k * c = val (p.take k) + val (q.take k) * f
theorem MulRel.step {p q os : List Nat} {f k c x y h l l1 c1 s c2 : Nat} (hr : MulRel p q f os k c) (hk : k < p.length) (hq : k < q.length) (hx : p[k] = x) (hy : q[k] = y) (bx : x < 18446744073709551616) (by' : y < 18446744073709551616) (bf : f < 18446744073709551616)
   (hh : y * f / 18446744073709551616 = h) (hl : y * f % 18446744073709551616 = l) (h1 : (l + c) % 18446744073709551616 = l1) (h2 : (l + c) / 18446744073709551616 = c1) (h3 : (x + l1) % 18446744073709551616 = s) (h4 : (x + l1) / 18446744073709551616 = c2) :
   MulRel p q f (os.set k s) (k + 1) (h + c1 + c2) ∧ h + c1 + c2 < 18446744073709551616 ∧ s < 18446744073709551616 ∧ c1 ≤ 1 ∧ c2 ≤ 1 ∧ l < 18446744073709551616 ∧ l1 < 18446744073709551616 ∧ h < 18446744073709551616 := by
 obtain ⟨r1, r2, r3, r4⟩ := hr
 have hp := prod_le by' bf
 have e : x + y * f + c = s + 18446744073709551616 * (h + c1 + c2) := by omega
 have b : h + c1 + c2 < 18446744073709551616 := by omega
 refine ⟨⟨by simpa using r1, by rw [drop_set]; exact (drop_get r2 (by omega) hk).2, b, ?_⟩, b, by omega, by omega, by omega, by omega, by omega, by omega⟩
 rw [val_set_take _ _ _ (by omega), val_take_succ p k hk, val_take_succ q k hq, hx, hy, Nat.pow_succ]
 rw [Nat.add_mul, Nat.mul_assoc (18446744073709551616 ^ k) y f]
 generalize y * f = t at *
 generalize h + c1 + c2 = z at *
 generalize 18446744073709551616 ^ k = K at *
 have e2 : K * (x + t + c) = K * (s + 18446744073709551616 * z) := by rw [e]
 rw [Nat.mul_add, Nat.mul_add, Nat.mul_add, ← Nat.mul_assoc] at e2
 omega
def AddProdPost (g : Nat) (T : TypeId) (P p Q q : List Nat) (f : Nat) (w : World) (e : Ending) (w' : World) : Prop :=
 ∃ (c : Nat) (os : List Nat), e = .returned (.int .u64 (c : Int)) ∧ c < 18446744073709551616 ∧ os.length = 4 ∧ W64 os ∧ val os + 18446744073709551616 ^ 4 * c = val p + val q * f ∧ Arr w' g T (P ++ os ++ Q) ∧ Upd g w w'
set_option maxHeartbeats 1000000 in
theorem p_addProduct (g o ca a b c d f : Nat) (T : TypeId) (P p Q : List Nat) (w : World) (hA : Arr w g T (P ++ p ++ Q)) (hP : P.length = o) (hp : p.length = 4) (wp : W64 p) (wq : W64 [a, b, c, d]) (hf : f < 18446744073709551616) :
   Calls Tryz.prog 104 #[.slice (some ⟨g, o, none⟩) 4 ca, .agg #[.int .u64 (a : Int), .int .u64 (b : Int), .int .u64 (c : Int), .int .u64 (d : Int)], .int .u64 (f : Int)] w (AddProdPost g T P p Q [a, b, c, d] f w) := by
 have hW := hide (arr_new w 79 [a, b, c, d] #[.int .u64 (a : Int), .int .u64 (b : Int), .int .u64 (c : Int), .int .u64 (d : Int)] rfl)
 have E0 := hide (ext_alloc w (.cells #[.int .u64 (a : Int), .int .u64 (b : Int), .int .u64 (c : Int), .int .u64 (d : Int)] 79))
 have lg := hA.lt
 have HA := hide hA
 obtain ⟨q, hq⟩ : ∃ q, q = [a, b, c, d] := ⟨_, rfl⟩
 rw [← hq] at hW wq
 have Hq : Hid (q.length = 4) := by rw [hq]; exact rfl
 have HP := hide hP
 have Hp := hide hp
 rw [← hq]
 clear hA hP hp hq
 go_enter Tryz.func104, Tryz.ntmps104
 go_wp2_with fail
 go_loopw [14, 7] (fun i t wr => ∃ (k c : Nat) (os : List Nat), i = .int .i64 k ∧ t = .int .u64 c ∧ k ≤ 4 ∧ c < 18446744073709551616 ∧ Hid (MulRel p q f os k c) ∧ W64 os ∧ Hid (Arr wr g T (P ++ os ++ Q)) ∧ Arr wr w.heap.size 79 q ∧ Upd g w wr) (fun i _ _ => 4 - (intOf i).toNat)
 case atStart => exact ⟨0, 0, p, rfl, rfl, by omega, by omega, ⟨rfl, rfl, by omega, by simp [val]⟩, wp, HA.out.ext E0.out, hW.out, E0.out.upd g⟩
 case round =>
   obtain ⟨k, c, os, rfl, rfl, hk, hc, HR, wo, HO, hQ, hU⟩ := hrel
   have HL : Hid (os.length = 4) := HR.out.1.trans Hp.out
   by_cases hk4 : k < 4
   · have hkn : k < os.length := by rw [HL.out]; omega
     have hkp : k < p.length := by rw [Hp.out]; omega
     have hkq : k < q.length := by rw [Hq.out]; omega
     have cg := HO.out.seg HP.out k hkn
     have fg := HO.out.free (o + k)
     have cb := hQ.at k hkq
     obtain ⟨x, hx⟩ : ∃ x, os[k] = x := ⟨_, rfl⟩
     obtain ⟨y, hy⟩ : ∃ y, q[k] = y := ⟨_, rfl⟩
     have hx2 : p[k] = x := by rw [← hx]; exact (drop_get HR.out.2.1 hkn hkp).1.symm
     have bx : x < 18446744073709551616 := by rw [← hx]; exact w64_get wo k hkn
     have b_y : y < 18446744073709551616 := by rw [← hy]; exact w64_get wq k hkq
     rw [hx] at cg
     rw [hy] at cb
     obtain ⟨h, hh⟩ : ∃ h, y * f / 18446744073709551616 = h := ⟨_, rfl⟩
     obtain ⟨l, hl⟩ : ∃ l, y * f % 18446744073709551616 = l := ⟨_, rfl⟩
     obtain ⟨l1, h1⟩ : ∃ l1, (l + c) % 18446744073709551616 = l1 := ⟨_, rfl⟩
     obtain ⟨c1, h2⟩ : ∃ c1, (l + c) / 18446744073709551616 = c1 := ⟨_, rfl⟩
     obtain ⟨s, h3⟩ : ∃ s, (x + l1) % 18446744073709551616 = s := ⟨_, rfl⟩
     obtain ⟨c2, h4⟩ : ∃ c2, (x + l1) / 18446744073709551616 = c2 := ⟨_, rfl⟩
     obtain ⟨hS, z1, z2, z3, z4, z5, z6, z7⟩ := HR.out.step hkp hkq hx2 hy bx b_y hf hh hl h1 h2 h3 h4
     have hadd := add64_eq0 l c l1 c1 h1 h2
     have hadd2 := add64_eq0 x l1 s c2 h3 h4
     have HHH := hide hh
     have HLL := hide hl
     have HS := hide hS
     have HW := hide (HO.out.segset HP.out k s hkn)
     have HU := hide (hU.set (o + k) (.int .u64 (s : Int)))
     have HQ := hide (hQ.far (b := g) (by omega) (o + k) (.int .u64 (s : Int)))
     have q1 : (h : Int) + c1 ≤ 18446744073709551615 := by omega
     have q2 : (h : Int) + c1 + c2 ≤ 18446744073709551615 := by omega
     clear hx hy hx2 hh hl h1 h2 h3 h4 hS
     go_wp2_with (go_at_call 75; refine (b_mul64 y f h l _ b_y hf HHH HLL).mono ?_; rintro e' w' ⟨rfl, rfl⟩)
     exact ⟨⟨k + 1, _, _, by go_num, by go_num, by omega, z1, HS, w64_set wo _ _ z2, HW, HQ.out, HU.out⟩, by simp [intOf]; omega⟩
   · obtain rfl : k = 4 := by omega
     have H1 : Hid (val os + 18446744073709551616 ^ 4 * c = val p + val q * f) := by
       obtain ⟨r1, _, _, r4⟩ := HR.out
       rw [List.take_of_length_le (by rw [HL.out]; omega), List.take_of_length_le (by rw [Hp.out]; omega), List.take_of_length_le (by rw [Hq.out]; omega)] at r4
       exact r4
     go_wp2
     go_ret
     exact ⟨c, os, rfl, hc, HL.out, wo, H1.out, HO.out, hU⟩
open Go Go.RowKit
theorem val_zeros (n : Nat) : val (List.replicate n 0) = 0 := by
 induction n with
 | zero => rfl
 | succ n ih => rw [List.replicate_succ, val, ih]
theorem w64_cat {a b : List Nat} (h : W64 a) (k : W64 b) : W64 (a ++ b) := fun x hx => by rcases List.mem_append.1 hx with h1 | h1; exact h x h1; exact k x h1
theorem mul_round (L os A : List Nat) (m k c f : Nat) (h8 : L.length = 8) (hk : k < 4) (hv : val L = val (A.take k) * m) (hz : L.drop (k + 4) = List.replicate (4 - k) 0) (ho : os.length = 4) (he : val os + 18446744073709551616 ^ 4 * c = val ((L.drop k).take 4) + m * f) (hA : k < A.length) (hf : A[k] = f) (hc : c < 18446744073709551616) (wL : W64 L) (wo : W64 os) :
   ((L.take k ++ os ++ L.drop (k + 4)).set (k + 4) c).length = 8 ∧ W64 ((L.take k ++ os ++ L.drop (k + 4)).set (k + 4) c) ∧ val ((L.take k ++ os ++ L.drop (k + 4)).set (k + 4) c) = val (A.take (k + 1)) * m ∧ ((L.take k ++ os ++ L.drop (k + 4)).set (k + 4) c).drop (k + 1 + 4) = List.replicate (4 - (k + 1)) 0 := by
 have hT : (L.take k).length = k := by simp; omega
 have e1 : (L.take k ++ os ++ L.drop (k + 4)).set (k + 4) c = L.take k ++ os ++ (c :: List.replicate (3 - k) 0) := by
   rw [hz, show 4 - k = (3 - k) + 1 by omega, List.replicate_succ, List.set_append_right _ _ (by simp [hT, ho])]
   congr 1
   rw [List.length_append, hT, ho, Nat.sub_self]; rfl
 rw [e1]
 refine ⟨by simp [hT, ho]; omega, ?_, ?_, ?_⟩
 · refine w64_cat (w64_cat (w64_take wL k) wo) ?_
   intro x hx
   rcases List.mem_cons.1 hx with rfl | hx
   · exact hc
   · rw [List.eq_of_mem_replicate hx]; omega
 · have e2 : val L = val (L.take k) + 18446744073709551616 ^ k * val ((L.drop k).take 4) := by
     rw [val_take_drop L k (by omega), val_take_drop (L.drop k) 4 (by simp; omega), List.drop_drop, hz, val_zeros]; simp
   rw [val_append, val_append, hT, List.length_append, hT, ho, val, val_zeros, val_take_succ A k hA, hf, Nat.add_mul, ← hv, e2, Nat.pow_add]
   generalize 18446744073709551616 ^ 4 = M at *
   generalize 18446744073709551616 ^ k = K at *
   have e3 : K * (val os + M * c) = K * (val ((L.drop k).take 4) + m * f) := by rw [he]
   rw [Nat.mul_add, Nat.mul_add, ← Nat.mul_assoc] at e3
   rw [Nat.mul_zero, Nat.add_zero, Nat.mul_assoc K f m, Nat.mul_comm f m]
   omega
 · rw [List.drop_append, List.length_append, hT, ho, List.drop_of_length_le (by rw [List.length_append, hT, ho]; omega), show k + 1 + 4 - (k + 4) = 1 by omega, show 4 - (k + 1) = 3 - k by omega]; rfl
theorem four_new (w : World) (o p q r : Obj) : ((((w.alloc o).alloc p).alloc q).alloc r).heap[w.heap.size]? = some o ∧ ((((w.alloc o).alloc p).alloc q).alloc r).heap[w.heap.size + 1]? = some p ∧ ((((w.alloc o).alloc p).alloc q).alloc r).heap[w.heap.size + 1 + 1]? = some q ∧ ((((w.alloc o).alloc p).alloc q).alloc r).heap[w.heap.size + 1 + 1 + 1]? = some r := by
 obtain ⟨h1, h2, h3⟩ := three_boxes w o p q
 have h4 := heap_alloc_new (((w.alloc o).alloc p).alloc q) r
 have hs : (((w.alloc o).alloc p).alloc q).heap.size = w.heap.size + 1 + 1 + 1 := by simp
 rw [hs] at h4
 exact ⟨keep5 (ext_alloc _ _) h1, keep5 (ext_alloc _ _) h2, keep5 (ext_alloc _ _) h3, h4⟩
theorem eight_list {L : List Nat} (h : L.length = 8) : ∃ a b c d e f g i, L = [a, b, c, d, e, f, g, i] := by
 match L, h with
 | [a, b, c, d, e, f, g, i], _ => exact ⟨a, b, c, d, e, f, g, i, rfl⟩
theorem eight_val (a b c d e f g i : Nat) : val [a, b, c, d, e, f, g, i] = mag4 a b c d + 115792089237316195423570985008687907853269984665640564039457584007913129639936 * mag4 e f g i := by
 simp only [mag4, val]; omega
theorem idxRun (a b c d k f : Nat) (hk : k < [a, b, c, d].length) (h : [a, b, c, d][k] = f) (w : World) : (Instr.index 79 (.agg #[.int .u64 (a : Int), .int .u64 (b : Int), .int .u64 (c : Int), .int .u64 (d : Int)]) (.int .i64 (k : Int))).run Tryz.prog w = .ok (.int .u64 (f : Int)) w := by
 have hk2 : k < 4 := hk
 have : k = 0 ∨ k = 1 ∨ k = 2 ∨ k = 3 := by omega
 rcases this with rfl | rfl | rfl | rfl <;> (subst h; simp [Instr.index, run_underlying Tryz.underlying79, Tryz.sizeOf22, part, isAgg, run_underlying Tryz.underlying22, asIntOf])
theorem slRun (T n g l : Nat) (h : Int) (m : Nat) (hm : h = ((m : Nat) : Int)) (hT : Tryz.prog.underlying T = some (.array (Tryz.prog.arrayLen T) (Tryz.prog.elem T))) (hn : Tryz.prog.arrayLen T = n) (he : Tryz.prog.elem T = 22) (h1 : l ≤ m) (h2 : m ≤ n) (h3 : l < n) (w : World) :
   (Instr.sliceAt T (.pointer (some ⟨g, 0, none⟩)) (some (.int .i64 (l : Int))) (some (.int .i64 h)) none).run Tryz.prog w = .ok (.slice (some ⟨g, l, none⟩) (m - l) (n - l)) w := by
 subst hm
 rw [run_sliceAt_array_lh w T ⟨g, 0, none⟩ hT .i64 .i64 (l : Int) (m : Int) (by omega) (by omega) (by rw [hn]; omega), he, Tryz.sizeOf22, hn]
 simp only [Result.andThen_ok, slicedAt, Int.toNat_natCast, Nat.mul_one]
 rw [if_neg (by omega)]
 by_cases h0 : l = 0
 · subst h0; simp [Addr.add]
 · simp [Addr.add, h0]
set_option maxHeartbeats 1000000 in
set_option maxRecDepth 100000 in
theorem p_mulWords (a b c d e f g h n m : Nat) (hn : mag4 a b c d = n) (hm : mag4 e f g h = m) (w : World) (hw : W64 [a, b, c, d]) (hw' : W64 [e, f, g, h]) :
   Calls Tryz.prog 87 #[.agg #[.int .u64 (a : Int), .int .u64 (b : Int), .int .u64 (c : Int), .int .u64 (d : Int)], .agg #[.int .u64 (e : Int), .int .u64 (f : Int), .int .u64 (g : Int), .int .u64 (h : Int)]] w
     (WordsRet ((n * m) % 115792089237316195423570985008687907853269984665640564039457584007913129639936) (decide (n * m < 115792089237316195423570985008687907853269984665640564039457584007913129639936)) w) := by
 obtain ⟨o, ho⟩ : ∃ o, decide (n * m < 115792089237316195423570985008687907853269984665640564039457584007913129639936) = o := ⟨_, rfl⟩
 rw [ho]
 have H4 := four_new w (.cells #[.int .u64 (a : Int), .int .u64 (b : Int), .int .u64 (c : Int), .int .u64 (d : Int)] 79) (.cells #[.int .u64 (e : Int), .int .u64 (f : Int), .int .u64 (g : Int), .int .u64 (h : Int)] 79) (.cells #[.int .u64 0, .int .u64 0, .int .u64 0, .int .u64 0] 79) (.cells #[.int .u64 0, .int .u64 0, .int .u64 0, .int .u64 0, .int .u64 0, .int .u64 0, .int .u64 0, .int .u64 0] 112)
 obtain ⟨W, hW⟩ : ∃ W, W = ((((w.alloc (.cells #[.int .u64 (a : Int), .int .u64 (b : Int), .int .u64 (c : Int), .int .u64 (d : Int)] 79)).alloc (.cells #[.int .u64 (e : Int), .int .u64 (f : Int), .int .u64 (g : Int), .int .u64 (h : Int)] 79)).alloc (.cells #[.int .u64 0, .int .u64 0, .int .u64 0, .int .u64 0] 79)).alloc (.cells #[.int .u64 0, .int .u64 0, .int .u64 0, .int .u64 0, .int .u64 0, .int .u64 0, .int .u64 0, .int .u64 0] 112)) := ⟨_, rfl⟩
 have E0 : Ext w W := by rw [hW]; exact (((ext_alloc _ _).trans (ext_alloc _ _)).trans (ext_alloc _ _)).trans (ext_alloc _ _)
 rw [← hW] at H4
 have A0 : Arr W w.heap.size 79 [a, b, c, d] := H4.1
 have A1 : Arr W (w.heap.size + 1) 79 [e, f, g, h] := H4.2.1
 have A2 : Arr W (w.heap.size + 1 + 1) 79 [0, 0, 0, 0] := H4.2.2.1
 have A3 : Arr W (w.heap.size + 1 + 1 + 1) 112 [0, 0, 0, 0, 0, 0, 0, 0] := H4.2.2.2
 have HW := hide hW
 have HO := hide ho
 have HM := hide hm
 obtain ⟨A, hA⟩ : ∃ A, A = [a, b, c, d] := ⟨_, rfl⟩
 have VA : Hid (val A = n) := by rw [hA]; exact hn
 have LA : Hid (A.length = 4) := by rw [hA]; exact rfl
 have HA := hide hA
 obtain ⟨c0, c1, c2, c3, f0, f1, f2, f3⟩ := A0.four
 clear hW H4 ho hn hm hA
 go_enter Tryz.func87, Tryz.ntmps87
 go_wp2_with fail
 rw [← HW.out]
 clear HW
 go_loopw [12] (fun i wr => ∃ (k : Nat) (L : List Nat), i = .int .i64 k ∧ k ≤ 4 ∧ Hid (L.length = 8) ∧ W64 L ∧ Hid (val L = val (A.take k) * m) ∧ Hid (L.drop (k + 4) = List.replicate (4 - k) 0) ∧ Arr wr (w.heap.size + 1 + 1 + 1) 112 L ∧ Upd (w.heap.size + 1 + 1 + 1) W wr) (fun i _ => 4 - (intOf i).toNat)
 case atStart => exact ⟨0, [0, 0, 0, 0, 0, 0, 0, 0], rfl, by omega, rfl, by (intro x hx; simp at hx; omega), by (unfold Hid; simp [val]), rfl, A3, Upd.refl _ _⟩
 case round =>
   obtain ⟨k, L, rfl, hk, HL, wL, HV, HZ, hP, hU⟩ := hrel
   by_cases hk4 : k < 4
   · have hkA : k < A.length := by rw [LA.out]; omega
     obtain ⟨f', hf⟩ : ∃ f', A[k] = f' := ⟨_, rfl⟩
     have hidx : ∀ w, (Instr.index 79 (.agg #[.int .u64 (a : Int), .int .u64 (b : Int), .int .u64 (c : Int), .int .u64 (d : Int)]) (.int .i64 (k : Int))).run Tryz.prog w = .ok (.int .u64 (f' : Int)) w := by
       have e := HA.out; subst e; exact idxRun a b c d k f' hkA hf
     have bf : f' < 18446744073709551616 := by
       have e := HA.out; subst e; rw [← hf]; exact w64_get hw k hkA
     have HF := hide hf
     have B1 := A1.upd hU (by omega)
     obtain ⟨d0, d1, d2, d3, g0, g1, g2, g3⟩ := B1.four
     clear hf
     have hsl := slRun 112 8 (w.heap.size + 1 + 1 + 1) k ((k : Int) + 4) (k + 4) (by omega) (by kernel_rfl) (by kernel_rfl) (by kernel_rfl) (by omega) (by omega) (by omega)
     rw [show k + 4 - k = 4 by omega] at hsl
     have hwr : IntKind.i64.wrap ((k : Int) + 4) = (k : Int) + 4 := by rw [IntKind.wrap_i64]; omega
     have hwr1 : (0 : Int) ≤ (k : Int) + 4 := by omega
     have hwr2 : (k : Int) + 4 < 8 := by omega
     have hwr3 : ((k : Int) + 4).toNat = k + 4 := by omega
     have HCT : Hid (L.take k ++ (L.drop k).take 4 ++ L.drop (k + 4) = L) := by
       unfold Hid
       rw [List.append_assoc, ← List.drop_drop, List.take_append_drop, List.take_append_drop]
     have HPA : Hid (Arr wr (w.heap.size + 1 + 1 + 1) 112 (L.take k ++ (L.drop k).take 4 ++ L.drop (k + 4))) := by rw [HCT.out]; exact hP
     have T1 : Hid ((L.take k).length = k) := by unfold Hid; rw [List.length_take, HL.out]; omega
     have T2 : Hid (((L.drop k).take 4).length = 4) := by unfold Hid; rw [List.length_take, List.length_drop, HL.out]; omega
     have w4 : W64 ((L.drop k).take 4) := w64_take (w64_drop wL k) 4
     have HR : Hid (∀ (c : Nat) (os : List Nat), os.length = 4 → c < 18446744073709551616 → W64 os → val os + 18446744073709551616 ^ 4 * c = val ((L.drop k).take 4) + val [e, f, g, h] * f' → _) := fun c os h1 h2 h3 h4 => mul_round L os A m k c f' HL.out hk4 HV.out HZ.out h1 (by rw [← HM.out]; exact h4) hkA HF.out h2 wL h3
     go_wp2_with fail
     go_region_with (go_at_call 104; refine (p_addProduct (w.heap.size + 1 + 1 + 1) k (8 - k) e f g h f' 112 (L.take k) ((L.drop k).take 4) (L.drop (k + 4)) _ HPA.out.drew T1.out T2.out w4 hw' bf).mono ?_; rintro e' w' ⟨c', os, rfl, hc', hl', hws, hv, hA', hU'⟩; obtain ⟨R1, R2, R3, R4⟩ := HR.out c' os hl' hc' hws hv; have R1 := hide R1; have R3 := hide R3; have R4 := hide R4; have hcs := hA'.at (k + 4) (by have := R1.out; rw [List.length_set] at this; omega); have hfs := hA'.free (k + 4); have HAA := hide (hA'.set (k + 4) c'); have HUU := hide (((hU.drew).trans hU').set (k + 4) (.int .u64 (c' : Int))); clear hv hA' hU' hl')
     all_goals go_wp2_with fail
     all_goals exact ⟨⟨k + 1, _, by go_num, by omega, R1, R2, R3, R4, HAA.out, HUU.out⟩, by simp [intOf]; omega⟩
   · obtain rfl : k = 4 := by omega
     have H1 : Hid (val L = n * m) := by
       unfold Hid
       rw [HV.out, List.take_of_length_le (by rw [LA.out]; omega), VA.out]
     obtain ⟨l0, l1, l2, l3, l4, l5, l6, l7, rfl⟩ := eight_list HL.out
     have B2 := A2.upd hU (by omega)
     have E1 := hU.ext E0 (by omega)
     have p0 := hP.at 0 (by simp)
     have p1 := hP.at 1 (by simp)
     have p2 := hP.at 2 (by simp)
     have p3 := hP.at 3 (by simp)
     have p4 := hP.at 4 (by simp)
     have p5 := hP.at 5 (by simp)
     have p6 := hP.at 6 (by simp)
     have p7 := hP.at 7 (by simp)
     have lq := B2.lt
     have lq2 : w.heap.size + 1 + 1 < wr.heap.size + 1 := by omega
     have lp := hP.lt
     have lp2 : w.heap.size + 1 + 1 + 1 < wr.heap.size + 1 := by omega
     simp only [List.getElem_cons_zero, List.getElem_cons_succ] at p0 p1 p2 p3 p4 p5 p6 p7
     obtain ⟨d0, d1, d2, d3, g0, g1, g2, g3⟩ := B2.four
     clear hP hU HZ HV HL hk4
     have hat1 : ∀ w2, (Instr.arrayAt 79 (.slice (some ⟨w.heap.size + 1 + 1 + 1, 0, none⟩) 4 8)).run Tryz.prog w2 = .ok (.pointer (some ⟨w.heap.size + 1 + 1 + 1, 0, none⟩)) w2 := fun w2 => run_arrayAt w2 79 _ 4 _ 4 8 Tryz.underlying79 (by omega)
     have hat2 : ∀ w2, (Instr.arrayAt 79 (.slice (some ⟨w.heap.size + 1 + 1 + 1, 4, none⟩) 4 4)).run Tryz.prog w2 = .ok (.pointer (some ⟨w.heap.size + 1 + 1 + 1, 4, none⟩)) w2 := fun w2 => run_arrayAt w2 79 _ 4 _ 4 4 Tryz.underlying79 (by omega)
     obtain ⟨o2, ho2⟩ : ∃ o2, decide (mag4 l4 l5 l6 l7 ≠ 0) = o2 := ⟨_, rfl⟩
     have hq := eql0 79 Tryz.underlying79 l4 l5 l6 l7 o2 ho2
     have HT : Hid (Ending.returned (Value.tuple #[.agg #[.int .u64 (l0 : Int), .int .u64 (l1 : Int), .int .u64 (l2 : Int), .int .u64 (l3 : Int)], .bool (!o2)]) = .returned (.tuple #[.agg #[.int .u64 (l0 : Int), .int .u64 (l1 : Int), .int .u64 (l2 : Int), .int .u64 (l3 : Int)], .bool o]) ∧ W64 [l0, l1, l2, l3] ∧ mag4 l0 l1 l2 l3 = (n * m) % 115792089237316195423570985008687907853269984665640564039457584007913129639936) := by
       have w4 : W64 [l0, l1, l2, l3] := fun x hx => wL x (by simp at hx ⊢; omega)
       obtain ⟨b0, b1, b2, b3⟩ := w64_four w4
       have hb := mag_lt b0 b1 b2 b3
       have he := eight_val l0 l1 l2 l3 l4 l5 l6 l7
       rw [H1.out] at he
       refine ⟨?_, w4, ?_⟩
       · have e : (!o2) = o := by
           rw [← HO.out, ← ho2]
           by_cases h0 : mag4 l4 l5 l6 l7 = 0
           · rw [decide_eq_false (by omega), decide_eq_true (by omega)]; rfl
           · rw [decide_eq_true h0, decide_eq_false (by omega)]; rfl
         rw [e]
       · rw [he, Nat.add_mul_mod_self_left, Nat.mod_eq_of_lt hb]
     clear H1 
     clear ho2
     go_wp2_with fail
     go_region
     all_goals go_wp2_with fail
     all_goals go_region
     all_goals go_wp2_with fail
     all_goals exact bodyPost_ret (v := .tuple #[.agg #[.int .u64 (l0 : Int), .int .u64 (l1 : Int), .int .u64 (l2 : Int), .int .u64 (l3 : Int)], .bool (!o2)]) (by simp [results, Tryz.results87, go_sem, d0, d1, d2, d3, lq, lq2]) rfl ⟨l0, l1, l2, l3, HT.out.1, HT.out.2.1, HT.out.2.2, ((((ext_four E1 (by omega) _ _ _ _).trans (ext_alloc _ _)).trans (ext_alloc _ _)).trans (ext_drew _)).trans (ext_drew _)⟩
open Go Go.RowKit
theorem mul_abs (s t : Bool) (n m : Nat) (x y : Int) (hx : x = if s then -(n : Int) else n) (hy : y = if t then -(m : Int) else m) :
   (if (s != t) then -((n * m : Nat) : Int) else ((n * m : Nat) : Int)) = x * y ∧ (x * y).natAbs = n * m := by
 have e : (x * y).natAbs = n * m := by
   rw [Int.natAbs_mul]
   have h1 : x.natAbs = n := by cases s <;> simp at hx <;> omega
   have h2 : y.natAbs = m := by cases t <;> simp at hy <;> omega
   rw [h1, h2]
 refine ⟨?_, e⟩
 subst hx; subst hy
 cases s <;> cases t <;> simp [Int.neg_mul, Int.mul_neg]
theorem neqB (s t u : Bool) (h : (s != t) = u) (w : World) : (binOp .neq 4 (.bool s) (.bool t)).run Tryz.prog w = .ok (.bool u) w := by
 subst h
 have e := fun d => run_equalIn_bool' w d 4 s t Tryz.underlying4
 simp only [binOp]
 simp [Op.equal, Op.maxDepth, e 9999]
 cases s <;> cases t <;> rfl
set_option maxHeartbeats 400000 in
set_option maxRecDepth 100000 in
theorem p_wmul (s t : Bool) (a b c d e f g h : Nat) (x y : Int) (w : World) (hx : IsW s a b c d x) (hy : IsW t e f g h y) :
   Calls Tryz.prog 68 #[.agg #[.bool s, .int .u64 (a : Int), .int .u64 (b : Int), .int .u64 (c : Int), .int .u64 (d : Int)], .agg #[.bool t, .int .u64 (e : Int), .int .u64 (f : Int), .int .u64 (g : Int), .int .u64 (h : Int)]] w (WideRet (x * y) w) := by
 obtain ⟨W, hW⟩ : ∃ W, W = (((w.alloc (.cells #[.bool s, .int .u64 (a : Int), .int .u64 (b : Int), .int .u64 (c : Int), .int .u64 (d : Int)] 25)).alloc (.cells #[.bool t, .int .u64 (e : Int), .int .u64 (f : Int), .int .u64 (g : Int), .int .u64 (h : Int)] 25)).alloc (.cells #[.bool false, .int .u64 0, .int .u64 0, .int .u64 0, .int .u64 0] 25)) := ⟨_, rfl⟩
 have H3 := three_boxes w (.cells #[.bool s, .int .u64 (a : Int), .int .u64 (b : Int), .int .u64 (c : Int), .int .u64 (d : Int)] 25) (.cells #[.bool t, .int .u64 (e : Int), .int .u64 (f : Int), .int .u64 (g : Int), .int .u64 (h : Int)] 25) (.cells #[.bool false, .int .u64 0, .int .u64 0, .int .u64 0, .int .u64 0] 25)
 rw [← hW] at H3
 have B0 : Box W w.heap.size s a b c d := H3.1
 have B1 : Box W (w.heap.size + 1) t e f g h := H3.2.1
 have B2 : Box W (w.heap.size + 1 + 1) false 0 0 0 0 := H3.2.2
 have E0 : Ext w W := by rw [hW]; exact ((ext_alloc _ _).trans (ext_alloc _ _)).trans (ext_alloc _ _)
 have HW := hide hW
 clear hW H3
 obtain ⟨n, hn⟩ : ∃ n, x.natAbs = n := ⟨_, rfl⟩
 obtain ⟨m, hm⟩ : ∃ m, y.natAbs = m := ⟨_, rfl⟩
 have MX : Hid (mag4 a b c d = n) := by rw [← hn]; exact hx.abs
 have MY : Hid (mag4 e f g h = m) := by rw [← hm]; exact hy.abs
 have wx := hx.w64
 have wy := hy.w64
 obtain ⟨u, hu⟩ : ∃ u, (s != t) = u := ⟨_, rfl⟩
 have SZ : Hid ((if u then -((n * m : Nat) : Int) else ((n * m : Nat) : Int)) = x * y ∧ (x * y).natAbs = n * m) := by
   have h1 := hx.2.2.2.2
   have h2 := hy.2.2.2.2
   rw [MX.out] at h1
   rw [MY.out] at h2
   rw [← hu]
   exact mul_abs s t n m x y h1 h2
 have hnb := neqB s t u hu
 clear hn hm hx hy hu
 obtain ⟨c0, c1, c2, c3, c4, f0, f1, f2, f3, f4⟩ := five_cells B0
 obtain ⟨d0, d1, d2, d3, d4, g0, g1, g2, g3, g4⟩ := five_cells B1
 by_cases hf : n * m < 115792089237316195423570985008687907853269984665640564039457584007913129639936
 · have HO : Hid (decide (n * m < 115792089237316195423570985008687907853269984665640564039457584007913129639936) = true) := by unfold Hid; rw [decide_eq_true_iff]; exact hf
   have HM : Hid ((n * m) % 115792089237316195423570985008687907853269984665640564039457584007913129639936 = n * m) := by unfold Hid; rw [Nat.mod_eq_of_lt hf]
   have HF : Hid ((x * y).natAbs < 115792089237316195423570985008687907853269984665640564039457584007913129639936) := by rw [SZ.out.2]; exact hf
   clear hf
   go_enter Tryz.func68, Tryz.ntmps68
   go_upto_region 1 with fail
   rw [← HW.out]
   clear HW
   go_wp2_with (first
     | (go_at_call 87; refine (p_mulWords a b c d e f g h n m MX.out MY.out _ wx wy).mono ?_; rintro e' w' ⟨a1, b1, c1', d1', rfl, hw1, hm1, hE⟩; rw [HO.out]; rw [HM.out] at hm1; have Hm1 := hide hm1; clear hm1; have R0 := B0.ext hE; have R1 := B1.ext hE; have R2 := B2.ext hE; obtain ⟨c0, c1, c2, c3, c4, f0, f1, f2, f3, f4⟩ := five_cells R0; obtain ⟨d0, d1, d2, d3, d4, g0, g1, g2, g3, g4⟩ := five_cells R1; have l0 := R0.lt; have l1 := R1.lt; have l2 := R2.lt; have E1 := E0.trans hE; clear hE)
     | (go_at_call 59; refine (p_signed u a1 b1 c1' d1' _ (w64_four hw1).1 (w64_four hw1).2.1 (w64_four hw1).2.2.1 (w64_four hw1).2.2.2).mono ?_; rintro e' w' ⟨s', a', b', c', d', rfl, hC, hE⟩; rw [Hm1.out, SZ.out.1] at hC; have E1 := (E1.trans (ext_alloc _ _)).trans hE; have R3 := (R2.ext (ext_alloc _ _)).ext hE; obtain ⟨d0, d1, d2, d3, d4, g0, g1, g2, g3, g4⟩ := five_cells R3; clear hE))
   all_goals exact bodyPost_ret (v := .tuple #[.agg #[.bool s', .int .u64 (a' : Int), .int .u64 (b' : Int), .int .u64 (c' : Int), .int .u64 (d' : Int)], .bool true]) (by simp [results, Tryz.results68, go_sem, d0, d1, d2, d3, d4]) rfl (wideRet_yes HF.out hC (ext_five E1 (by omega) _ _ _ _ _))
 · have HO : Hid (decide (n * m < 115792089237316195423570985008687907853269984665640564039457584007913129639936) = false) := by unfold Hid; rw [decide_eq_false_iff_not]; exact hf
   have HF : Hid (¬ (x * y).natAbs < 115792089237316195423570985008687907853269984665640564039457584007913129639936) := by rw [SZ.out.2]; exact hf
   clear hf
   go_enter Tryz.func68, Tryz.ntmps68
   go_upto_region 1 with fail
   rw [← HW.out]
   clear HW
   go_wp2_with (go_at_call 87; refine (p_mulWords a b c d e f g h n m MX.out MY.out _ wx wy).mono ?_; rintro e' w' ⟨a1, b1, c1', d1', rfl, hw1, hm1, hE⟩; rw [HO.out]; clear hm1; have R2 := B2.ext hE; have l2 := R2.lt; obtain ⟨d0, d1, d2, d3, d4, g0, g1, g2, g3, g4⟩ := five_cells R2; have E1 := E0.trans hE; clear hE)
   all_goals exact bodyPost_ret (v := .tuple #[.agg #[.bool false, .int .u64 0, .int .u64 0, .int .u64 0, .int .u64 0], .bool false]) (by simp [results, Tryz.results68, go_sem, d0, d1, d2, d3, d4, l2]) rfl (wideRet_no HF.out ((ext_five E1 (by omega) _ _ _ _ _).trans (ext_alloc _ _)))
end
section
open Go Go.RowKit
def lzRen : Go.Shelf.Ren := ⟨fun | 134 => 100 | 129 => 106 | n => n, fun | 53 => 22 | 3 => 3 | 4 => 4 | 46 => 66 | 5 => 5 | 9 => 9 | n => n, fun | n => n⟩
theorem lzLays : Go.Proofs.Lays.n134 Tryz.prog lzRen := {
 mixed := by kernel_rfl
 f129 := Tryz.func106.trans (congrArg some (by kernel_rfl))
 f134 := Tryz.func100.trans (congrArg some (by kernel_rfl))
 t3 := Tryz.underlying3
 a3 := Tryz.isAgg3
 z3 := Tryz.sizeOf3
 v3 := Tryz.zeroValue3
 t4 := Tryz.underlying4
 a4 := Tryz.isAgg4
 z4 := Tryz.sizeOf4
 v4 := Tryz.zeroValue4
 t5 := Tryz.underlying5
 a5 := Tryz.isAgg5
 z5 := Tryz.sizeOf5
 v5 := Tryz.zeroValue5
 t9 := Tryz.underlying9
 a9 := Tryz.isAgg9
 z9 := Tryz.sizeOf9
 v9 := Tryz.zeroValue9
 t46 := Tryz.underlying66
 a46 := Tryz.isAgg66
 z46 := Tryz.sizeOf66
 v46 := Tryz.zeroValue66
 t53 := Tryz.underlying22
 a53 := Tryz.isAgg22
 z53 := Tryz.sizeOf22
 v53 := Tryz.zeroValue22 }
theorem bitLen_spec (x : Nat) : x < 2 ^ 64 → Lib.bitLen x ≤ 64 ∧ x < 2 ^ Lib.bitLen x ∧ (x ≠ 0 → 1 ≤ Lib.bitLen x ∧ 2 ^ (Lib.bitLen x - 1) ≤ x) := by
 intro h
 have key : ∀ k x : Nat, x < 2 ^ k → k ≤ 64 → Lib.bitLen x ≤ k ∧ x < 2 ^ Lib.bitLen x ∧ (x ≠ 0 → 1 ≤ Lib.bitLen x ∧ 2 ^ (Lib.bitLen x - 1) ≤ x) := by
   intro k
   induction k with
   | zero => intro x hx _; have : x = 0 := by omega
             subst this; decide
   | succ k ih =>
     intro x hx hk
     by_cases h0 : x = 0
     · subst h0; have e0 : Lib.bitLen 0 = 0 := by decide
       rw [e0]
       exact ⟨by omega, by omega, fun h => absurd rfl h⟩
     · have h64 : x < 2 ^ 64 := Nat.lt_of_lt_of_le hx (Nat.pow_le_pow_right (by omega) hk)
       have e := Lib.bitLen_half x h0 h64
       obtain ⟨i1, i2, i3⟩ := ih (x / 2) (by rw [Nat.pow_succ] at hx; omega) (by omega)
       rw [e]
       refine ⟨by omega, by rw [Nat.add_comm, Nat.pow_succ]; omega, fun _ => ⟨by omega, ?_⟩⟩
       rw [Nat.add_sub_cancel_left]
       by_cases h1 : x / 2 = 0
       · rw [h1]; have : Lib.bitLen 0 = 0 := by decide
         rw [this]; omega
       · obtain ⟨j1, j2⟩ := i3 h1
         obtain ⟨q, hq⟩ : ∃ q, Lib.bitLen (x / 2) = q + 1 := ⟨_, (Nat.sub_add_cancel j1).symm⟩
         rw [hq] at j2 ⊢
         simp only [Nat.add_sub_cancel] at j2
         rw [Nat.pow_succ]; omega
 exact key 64 x h (by omega)
theorem b_lz (x : Nat) (w : World) (hx : x < 18446744073709551616) (h0 : 0 < x) : Calls Tryz.prog 100 #[.int .u64 (x : Int)] w fun e w' => ∃ s : Nat, e = .returned (.int .i64 (s : Int)) ∧ s < 64 ∧ x * 2 ^ s < 18446744073709551616 ∧ 9223372036854775808 ≤ x * 2 ^ s ∧ w = w' := by
 refine (Go.Proofs.Any.bits_LeadingZeros64 lzLays (x : Int) w (by omega) (by omega)).mono ?_
 rintro e w' ⟨rfl, rfl⟩
 obtain ⟨i1, i2, i3⟩ := bitLen_spec x hx
 obtain ⟨j1, j2⟩ := i3 (by omega)
 have e : (64 : Nat) = Lib.bitLen x + (64 - Lib.bitLen x) := by omega
 refine ⟨64 - Lib.bitLen x, by rw [Int.toNat_natCast]; congr 2; omega, by omega, ?_, ?_, rfl⟩
 · have h1 : x * 2 ^ (64 - Lib.bitLen x) < 2 ^ Lib.bitLen x * 2 ^ (64 - Lib.bitLen x) := Nat.mul_lt_mul_of_pos_right i2 (Nat.two_pow_pos _)
   rw [← Nat.pow_add, ← e] at h1
   exact h1
 · have h1 : 2 ^ (Lib.bitLen x - 1) * 2 ^ (64 - Lib.bitLen x) ≤ x * 2 ^ (64 - Lib.bitLen x) := Nat.mul_le_mul_right _ j2
   rw [← Nat.pow_add, show Lib.bitLen x - 1 + (64 - Lib.bitLen x) = 63 by omega] at h1
   exact h1
open Go Go.RowKit
theorem wM (x y : Nat) : ∃ m : Nat, IntKind.u64.wrap ((x : Int) * (y : Int)) = (m : Int) ∧ Hid (m = x * y % 18446744073709551616) :=
 ⟨x * y % 18446744073709551616, by rw [wrap_u64', Int.natCast_emod, Int.natCast_mul]; rfl, rfl⟩
theorem wMl (x : Nat) : ∃ m : Nat, IntKind.u64.wrap ((x : Int) * 4294967296) = (m : Int) ∧ Hid (m = x * 4294967296 % 18446744073709551616) :=
 ⟨x * 4294967296 % 18446744073709551616, by rw [wrap_u64', Int.natCast_emod, Int.natCast_mul]; rfl, rfl⟩
theorem wlM (x : Nat) : ∃ m : Nat, IntKind.u64.wrap (4294967296 * (x : Int)) = (m : Int) ∧ Hid (m = x * 4294967296 % 18446744073709551616) := by
 obtain ⟨m, h1, h2⟩ := wMl x
 exact ⟨m, by rw [Int.mul_comm]; exact h1, h2⟩
theorem wA (x y : Nat) : ∃ m : Nat, IntKind.u64.wrap ((x : Int) + (y : Int)) = (m : Int) ∧ Hid (m = (x + y) % 18446744073709551616) :=
 ⟨(x + y) % 18446744073709551616, by rw [wrap_u64']; omega, rfl⟩
theorem wS (x y : Nat) (hy : y ≤ 18446744073709551616) : ∃ m : Nat, IntKind.u64.wrap ((x : Int) - (y : Int)) = (m : Int) ∧ Hid (m = (x + 18446744073709551616 - y) % 18446744073709551616) :=
 ⟨(x + 18446744073709551616 - y) % 18446744073709551616, by rw [wrap_u64']; omega, rfl⟩
theorem wS1 (x : Nat) : ∃ m : Nat, IntKind.u64.wrap ((x : Int) - 1) = (m : Int) ∧ Hid (m = (x + 18446744073709551615) % 18446744073709551616) :=
 ⟨(x + 18446744073709551615) % 18446744073709551616, by rw [wrap_u64']; omega, rfl⟩
theorem wD (x y : Nat) : ∃ m : Nat, (x : Int).tdiv (y : Int) = (m : Int) ∧ (x : Int) / (y : Int) = (m : Int) ∧ Hid (m = x / y) :=
 ⟨x / y, (Int.ofNat_tdiv x y).symm, (Int.natCast_ediv x y).symm, rfl⟩
theorem wI (x : Nat) (h : x < 18446744073709551616) : IntKind.u64.wrap (x : Int) = (x : Int) := by rw [wrap_u64']; omega
theorem or_sum (x y s : Nat) (hs : s ≤ 64) (hy : y < 2 ^ s) (hx : x * 2 ^ s < 18446744073709551616) : bits .or .u64 ((x * 2 ^ s : Nat) : Int) (y : Int) = ((x * 2 ^ s + y : Nat) : Int) := by
 have h64 : (2 : Nat) ^ s ≤ 18446744073709551616 := Nat.le_trans (Nat.pow_le_pow_right (by omega) hs) (by decide)
 have e1 : (BitVec.ofInt 64 ((x * 2 ^ s : Nat) : Int)).toNat = x * 2 ^ s := by
   rw [BitVec.ofInt_natCast, BitVec.toNat_ofNat]; exact Nat.mod_eq_of_lt hx
 have e2 : (BitVec.ofInt 64 (y : Int)).toNat = y := by
   rw [BitVec.ofInt_natCast, BitVec.toNat_ofNat]; exact Nat.mod_eq_of_lt (by omega)
 have e3 : x * 2 ^ s ||| y = x * 2 ^ s + y := by
   rw [Nat.mul_comm x, Nat.two_pow_add_eq_or_of_lt hy]
 show IntKind.u64.wrap ((BitVec.ofInt 64 ((x * 2 ^ s : Nat) : Int) ||| BitVec.ofInt 64 (y : Int)).toNat : Int) = _
 rw [BitVec.toNat_or, e1, e2, e3, wrap_u64']
 have h5 : x * 2 ^ s + y < 18446744073709551616 := by
   by_cases h : s = 64
   · subst h
     have h0 : x = 0 := by
       rcases Nat.eq_zero_or_pos x with h | h
       · exact h
       · exfalso
         have : 1 * 2 ^ 64 ≤ x * 2 ^ 64 := Nat.mul_le_mul_right _ h
         omega
     subst h0; simp; exact hy
   · have h6 : x * 2 ^ s + 2 ^ s ≤ 18446744073709551616 := by
       have h7 : (18446744073709551616 : Nat) = 2 ^ (64 - s) * 2 ^ s := by rw [← Nat.pow_add, Nat.sub_add_cancel hs]
       rw [h7] at hx ⊢
       have h8 := Nat.lt_of_mul_lt_mul_right hx
       have h9 : (x + 1) * 2 ^ s ≤ 2 ^ (64 - s) * 2 ^ s := Nat.mul_le_mul_right _ h8
       rw [Nat.add_mul, Nat.one_mul] at h9
       exact h9
     omega
 omega
theorem div_head (hi lo y s : Nat) (h1 : hi < y) (_h2 : y < 18446744073709551616) (h3 : lo < 18446744073709551616) (hs : s < 64) (k2 : y * 2 ^ s < 18446744073709551616) (k3 : 9223372036854775808 ≤ y * 2 ^ s) :
   ∃ v n1 n0 hs' lt u32 u10 u1 u0 : Nat, IntKind.u64.wrap ((y : Int) * 2 ^ s) = (v : Int) ∧ (v : Int) / 4294967296 = (n1 : Int) ∧ bits .and .u64 (v : Int) 4294967295 = (n0 : Int) ∧
     IntKind.u64.wrap ((hi : Int) * 2 ^ s) = (hs' : Int) ∧ (lo : Int) / 2 ^ (64 - s) = (lt : Int) ∧ bits .or .u64 (hs' : Int) (lt : Int) = (u32 : Int) ∧ IntKind.u64.wrap ((lo : Int) * 2 ^ s) = (u10 : Int) ∧ (u10 : Int) / 4294967296 = (u1 : Int) ∧ bits .and .u64 (u10 : Int) 4294967295 = (u0 : Int) ∧
     Hid (v = n1 * 4294967296 + n0 ∧ n0 < 4294967296 ∧ 2147483648 ≤ n1 ∧ n1 < 4294967296 ∧ u10 = u1 * 4294967296 + u0 ∧ u0 < 4294967296 ∧ u1 < 4294967296 ∧ u32 < v ∧ v < 18446744073709551616 ∧ u32 * 18446744073709551616 + u10 = (hi * 18446744073709551616 + lo) * 2 ^ s ∧ v = y * 2 ^ s) := by
 have hp : (18446744073709551616 : Nat) = 2 ^ s * 2 ^ (64 - s) := by rw [← Nat.pow_add, show s + (64 - s) = 64 by omega]
 have c2 : ((2 : Int) ^ s) = ((2 ^ s : Nat) : Int) := by rw [Int.natCast_pow]; rfl
 have c3 : ((2 : Int) ^ (64 - s)) = ((2 ^ (64 - s) : Nat) : Int) := by rw [Int.natCast_pow]; rfl
 have hhi : hi * 2 ^ s < 18446744073709551616 := Nat.lt_of_le_of_lt (Nat.mul_le_mul_right _ (Nat.le_of_lt h1)) k2
 have hlt : lo / 2 ^ (64 - s) < 2 ^ s := by
   rw [Nat.div_lt_iff_lt_mul (Nat.two_pow_pos _), ← hp]; exact h3
 refine ⟨y * 2 ^ s, y * 2 ^ s / 4294967296, y * 2 ^ s % 4294967296, hi * 2 ^ s, lo / 2 ^ (64 - s), hi * 2 ^ s + lo / 2 ^ (64 - s), lo * 2 ^ s % 18446744073709551616, lo * 2 ^ s % 18446744073709551616 / 4294967296, lo * 2 ^ s % 18446744073709551616 % 4294967296, ?_, ?_, ?_, ?_, ?_, ?_, ?_, ?_, ?_, ?_⟩
 · rw [c2, ← Int.natCast_mul, wI _ k2]
 · rw [Int.natCast_ediv]; rfl
 · rw [m32, Int.natCast_emod]; rfl
 · rw [c2, ← Int.natCast_mul, wI _ hhi]
 · rw [c3, Int.natCast_ediv]
 · exact or_sum hi (lo / 2 ^ (64 - s)) s (by omega) hlt hhi
 · rw [c2, ← Int.natCast_mul, wrap_u64', Int.natCast_emod]; rfl
 · rw [Int.natCast_ediv]; rfl
 · rw [m32, Int.natCast_emod]; rfl
 · have e1 : lo * 2 ^ s = lo / 2 ^ (64 - s) * 18446744073709551616 + lo * 2 ^ s % 18446744073709551616 := by
     have e2 : lo * 2 ^ s / 18446744073709551616 = lo / 2 ^ (64 - s) := by
       rw [hp, Nat.mul_comm lo, Nat.mul_div_mul_left _ _ (Nat.two_pow_pos s)]
     have := Nat.div_add_mod (lo * 2 ^ s) 18446744073709551616
     rw [e2] at this; omega
   have e3 : hi * 2 ^ s + 2 ^ s ≤ y * 2 ^ s := by
     have : (hi + 1) * 2 ^ s ≤ y * 2 ^ s := Nat.mul_le_mul_right _ h1
     rw [Nat.add_mul, Nat.one_mul] at this; exact this
   refine ⟨by omega, by omega, by omega, by omega, by omega, by omega, by omega, by omega, k2, ?_, rfl⟩
   rw [Nat.add_mul, Nat.add_mul, Nat.mul_right_comm hi]
   omega
open Go Go.RowKit
def DigRel (u v n1 c q r : Nat) : Prop := u = q * n1 + r ∧ r < 4294967296 ∧ u * 4294967296 + c < (q + 1) * v
theorem dig_iff (u v n1 n0 c q r : Nat) (hv : v = n1 * 4294967296 + n0) (e : u = q * n1 + r) : q * n0 ≤ r * 4294967296 + c ↔ q * v ≤ u * 4294967296 + c := by
 subst hv; subst e
 rw [Nat.mul_add, Nat.add_mul, ← Nat.mul_assoc]
 omega
theorem dig_lt (u v c : Nat) (hu : u < v) (hc : c < 4294967296) : u * 4294967296 + c < 4294967296 * v := by omega
theorem dig_stop (u v n1 n0 c q r : Nat) (hv : v = n1 * 4294967296 + n0) (_hn0 : n0 < 4294967296) (hu : u < v) (hc : c < 4294967296) (h : DigRel u v n1 c q r) (c1 : q * v ≤ u * 4294967296 + c) : q < 4294967296 ∧ q * n0 ≤ r * 4294967296 + c := by
 refine ⟨?_, (dig_iff u v n1 n0 c q r hv h.1).2 c1⟩
 have := dig_lt u v c hu hc
 exact Nat.lt_of_mul_lt_mul_right (Nat.lt_of_le_of_lt c1 this)
theorem dig_noWrap (n0 c q r m1 m2 m3 : Nat) (hn0 : n0 < 4294967296) (hc : c < 4294967296) (hq : q < 4294967296) (hr : r < 4294967296) (h1 : m1 = q * n0 % 18446744073709551616) (h2 : m2 = r * 4294967296 % 18446744073709551616) (h3 : m3 = (m2 + c) % 18446744073709551616) : m1 = q * n0 ∧ m3 = r * 4294967296 + c := by
 have : q * n0 ≤ 4294967295 * 4294967295 := Nat.mul_le_mul (by omega) (by omega)
 omega
theorem bnd_u21 (u v n1 q r : Nat) (hn1 : 2147483648 ≤ n1) (hu : u < v) (hv : v < 18446744073709551616) (e : u = q * n1 + r) : q < 18446744073709551616 := by
 have : q * 1 ≤ q * n1 := Nat.mul_le_mul_left _ (by omega)
 omega
theorem dig_dec (u v n1 n0 c q r : Nat) (hv : v = n1 * 4294967296 + n0) (hn0 : n0 < 4294967296) (hn1 : 0 < n1) (hu : u < v) (hc : c < 4294967296) (h : DigRel u v n1 c q r) (c1 : ¬ q * v ≤ u * 4294967296 + c) (q' r' : Nat) (bn : r + n1 < 18446744073709551616) (bq : q < 18446744073709551616)
   (hq' : q' = (q + 18446744073709551615) % 18446744073709551616) (hr' : r' = (r + n1) % 18446744073709551616) :
   q' < q ∧ (r' < 4294967296 → DigRel u v n1 c q' r') ∧ (4294967296 ≤ r' → q' * v ≤ u * 4294967296 + c ∧ u * 4294967296 + c < (q' + 1) * v ∧ q' < 4294967296) := by
 have hq0 : 0 < q := by
   rcases Nat.eq_zero_or_pos q with h0 | h0
   · subst h0; simp at c1
   · exact h0
 have e1 : q = q' + 1 := by omega
 have e2 : r' = r + n1 := by omega
 obtain ⟨h1, h2, h3⟩ := h
 have e3 : u = q' * n1 + r' := by rw [h1, e1, e2, Nat.add_mul]; omega
 have e4 : u * 4294967296 + c < (q' + 1) * v := by rw [← e1]; omega
 refine ⟨by omega, fun h => ⟨e3, h, e4⟩, fun h => ?_⟩
 have h5 : q' < 4294967296 := by
   have h6 : q' * n1 < 4294967296 * n1 := by omega
   exact Nat.lt_of_mul_lt_mul_right h6
 refine ⟨(dig_iff u v n1 n0 c q' r' hv e3).1 ?_, e4, h5⟩
 have : q' * n0 ≤ 4294967295 * 4294967295 := Nat.mul_le_mul (by omega) (by omega)
 omega
theorem dig_init (u v n1 n0 c g a r0 : Nat) (hv : v = n1 * 4294967296 + n0) (_hn0 : n0 < 4294967296) (hn1 : 0 < n1 ∧ n1 < 4294967296) (hu : u < v) (hv2 : v < 18446744073709551616) (hc : c < 4294967296) (hg : g = u / n1) (ha : a = g * n1 % 18446744073709551616) (hr : r0 = (u + 18446744073709551616 - a) % 18446744073709551616) : DigRel u v n1 c g r0 := by
 have h1 := Nat.div_add_mod u n1
 have h2 := Nat.mod_lt u hn1.1
 rw [← hg, Nat.mul_comm] at h1
 have h3 : (g + 1) * v = (g * n1 + n1) * 4294967296 + (g + 1) * n0 := by subst hv; rw [Nat.mul_add, ← Nat.mul_assoc, Nat.add_mul, Nat.one_mul]
 refine ⟨by omega, by omega, ?_⟩
 rw [h3]; omega
theorem dig_rest (u v c q a1 a2 a3 x : Nat) {n1 n0 u10 u0 X y s : Nat} (hv : v = n1 * 4294967296 + n0 ∧ n0 < 4294967296 ∧ 2147483648 ≤ n1 ∧ n1 < 4294967296 ∧ u10 = c * 4294967296 + u0 ∧ u0 < 4294967296 ∧ c < 4294967296 ∧ u < v ∧ v < 18446744073709551616 ∧ u * 18446744073709551616 + u10 = X * 2 ^ s ∧ v = y * 2 ^ s)
   (hq : q * v ≤ u * 4294967296 + c ∧ u * 4294967296 + c < (q + 1) * v ∧ q < 4294967296) (h1 : a1 = u * 4294967296 % 18446744073709551616) (h2 : a2 = (a1 + c) % 18446744073709551616) (h3 : a3 = q * v % 18446744073709551616) (h4 : x = (a2 + 18446744073709551616 - a3) % 18446744073709551616) :
   u * 4294967296 + c = q * v + x ∧ x < v := by
 obtain ⟨_, _, _, _, _, _, hc, hu, hb, _, _⟩ := hv
 obtain ⟨k1, k2, k3⟩ := hq
 rw [Nat.add_mul, Nat.one_mul] at k2
 generalize q * v = t at *
 omega
theorem fin_b (v u p c b3 b4 b5 b6 : Nat) (hv : v < 18446744073709551616) (hu : u < v) (hc : c < 4294967296) (p1 : p * v ≤ u * 4294967296 + c) (p2 : u * 4294967296 + c < (p + 1) * v) (h3 : b3 = u * 4294967296 % 18446744073709551616) (h4 : b4 = (b3 + c) % 18446744073709551616) (h5 : b5 = p * v % 18446744073709551616) (h6 : b6 = (b4 + 18446744073709551616 - b5) % 18446744073709551616) :
   u * 4294967296 + c = p * v + b6 ∧ b6 < v := by
 rw [Nat.add_mul, Nat.one_mul] at p2
 generalize p * v = t at *
 omega
theorem fin_q (q p b1 b2 : Nat) (hq : q < 4294967296) (hp : p < 4294967296) (h1 : b1 = q * 4294967296 % 18446744073709551616) (h2 : b2 = (b1 + p) % 18446744073709551616) : b2 = q * 4294967296 + p := by omega
theorem fin_x {v u32 u1 u0 u21 q p b6 : Nat} (h1 : u32 * 4294967296 + u1 = q * v + u21) (h2 : u21 * 4294967296 + u0 = p * v + b6) : u32 * 18446744073709551616 + (u1 * 4294967296 + u0) = q * v * 4294967296 + p * v + b6 := by
 have h3 : u32 * 18446744073709551616 + u1 * 4294967296 = q * v * 4294967296 + u21 * 4294967296 := by
   have h4 := congrArg (· * 4294967296) h1
   simp only [Nat.add_mul] at h4
   rw [Nat.mul_assoc u32] at h4
   exact h4
 rw [← Nat.add_assoc, h3, Nat.add_assoc, h2, Nat.add_assoc]
theorem div_fin (hi lo y s v u32 u10 u1 u0 n1 n0 q p u21 b1 b2 b3 b4 b5 b6 : Nat) (hv : v = n1 * 4294967296 + n0 ∧ n0 < 4294967296 ∧ 2147483648 ≤ n1 ∧ n1 < 4294967296 ∧ u10 = u1 * 4294967296 + u0 ∧ u0 < 4294967296 ∧ u1 < 4294967296 ∧ u32 < v ∧ v < 18446744073709551616 ∧ u32 * 18446744073709551616 + u10 = (hi * 18446744073709551616 + lo) * 2 ^ s ∧ v = y * 2 ^ s)
   (hq : q * v ≤ u32 * 4294967296 + u1 ∧ u32 * 4294967296 + u1 < (q + 1) * v ∧ q < 4294967296) (hu : u32 * 4294967296 + u1 = q * v + u21 ∧ u21 < v) (hp : p * v ≤ u21 * 4294967296 + u0 ∧ u21 * 4294967296 + u0 < (p + 1) * v ∧ p < 4294967296) (_h1 : hi < y)
   (h1 : b1 = q * 4294967296 % 18446744073709551616) (h2 : b2 = (b1 + p) % 18446744073709551616) (h3 : b3 = u21 * 4294967296 % 18446744073709551616) (h4 : b4 = (b3 + u0) % 18446744073709551616) (h5 : b5 = p * v % 18446744073709551616) (h6 : b6 = (b4 + 18446744073709551616 - b5) % 18446744073709551616) :
   (hi * 18446744073709551616 + lo) / y = b2 ∧ (hi * 18446744073709551616 + lo) % y = b6 / 2 ^ s := by
 obtain ⟨_, _, _, _, e10, hc0, _, _, hvb, eX, ev⟩ := hv
 obtain ⟨p1, p2, p3⟩ := hp
 have eb := fin_b v u21 p u0 b3 b4 b5 b6 hvb hu.2 hc0 p1 p2 h3 h4 h5 h6
 have e2 := fin_q q p b1 b2 hq.2.2 p3 h1 h2
 have eT : (hi * 18446744073709551616 + lo) * 2 ^ s = b2 * v + b6 := by
   rw [← eX, e10, e2, Nat.add_mul, Nat.mul_right_comm q]
   exact fin_x hu.1 eb.1
 have hy : 0 < y := by omega
 have ps := Nat.two_pow_pos s
 rw [ev, ← Nat.mul_assoc] at eT
 have hb6 : b6 / 2 ^ s * 2 ^ s = b6 := by
   have hd : 2 ^ s ∣ b6 := by
     have h7 : 2 ^ s ∣ b2 * y * 2 ^ s + b6 := by rw [← eT]; exact Nat.dvd_mul_left _ _
     exact (Nat.dvd_add_right (Nat.dvd_mul_left _ _)).1 h7
   exact Nat.div_mul_cancel hd
 have hX : hi * 18446744073709551616 + lo = b2 * y + b6 / 2 ^ s := by
   have h8 : (hi * 18446744073709551616 + lo) * 2 ^ s = (b2 * y + b6 / 2 ^ s) * 2 ^ s := by rw [Nat.add_mul (b2 * y), hb6]; exact eT
   exact Nat.eq_of_mul_eq_mul_right ps h8
 have hlt : b6 / 2 ^ s < y := by
   rw [Nat.div_lt_iff_lt_mul ps, ← ev]; exact eb.2
 rw [hX]
 constructor
 · rw [Nat.mul_comm, Nat.mul_add_div hy, Nat.div_eq_of_lt hlt, Nat.add_zero]
 · rw [Nat.mul_comm, Nat.mul_add_mod, Nat.mod_eq_of_lt hlt]
theorem sh2 (b s : Nat) : (b : Int) / 2 ^ s = ((b / 2 ^ s : Nat) : Int) := by
 rw [Int.natCast_ediv, Int.natCast_pow]; rfl
set_option maxRecDepth 100000 in
set_option maxHeartbeats 2000000 in
theorem b_div64_big (hi lo y : Nat) (w : World) (h1 : hi < y) (h2 : y < 18446744073709551616) (h3 : lo < 18446744073709551616) (h0 : 0 < hi) :
   Calls Tryz.prog 92 #[.int .u64 (hi : Int), .int .u64 (lo : Int), .int .u64 (y : Int)] w fun e w' => e = .returned (.tuple #[.int .u64 (((hi * 18446744073709551616 + lo) / y : Nat) : Int), .int .u64 (((hi * 18446744073709551616 + lo) % y : Nat) : Int)]) ∧ w = w' := by
 have e1 : ((y : Int) == 0) = false := by simp; omega
 have e2 : ((hi : Int) == 0) = false := by simp; omega
 have e3 : ¬ ((y : Int) ≤ (hi : Int)) := by omega
 have e4 : ¬ (y ≤ hi) := by omega
 obtain ⟨dq, hdq⟩ : ∃ dq, (hi * 18446744073709551616 + lo) / y = dq := ⟨_, rfl⟩
 obtain ⟨dr, hdr⟩ : ∃ dr, (hi * 18446744073709551616 + lo) % y = dr := ⟨_, rfl⟩
 rw [hdq, hdr]
 have HDQ := hide hdq
 have HDR := hide hdr
 clear hdq hdr
 go_enter Tryz.func92, Tryz.ntmps92
 go_wp2_with (go_at_call 100; refine (b_lz y _ h2 (by omega)).mono ?_; rintro e w' ⟨s, rfl, k1, k2, k3, rfl⟩; obtain ⟨v, n1, n0, hs', lt, u32, u10, u1, u0, f1, f2, f3, f4, f5, f6, f7, f8, f9, HV⟩ := div_head hi lo y s h1 h2 h3 k1 k2 k3; clear k2 k3; have HN : Hid (0 < n1 ∧ n1 < 4294967296) := (by have := HV.out; exact ⟨by omega, by omega⟩); have hn1 : ¬ ((n1 : Int) = 0) := (by have := HN.out; omega); have hn2 : ¬ (n1 = 0) := (by have := HN.out; omega); obtain ⟨g1, t11, t12, GG⟩ := wD u32 n1; have t13 := wI g1 (by have := GG.out; have := HV.out; have : u32 / n1 ≤ u32 := Nat.div_le_self _ _; omega); obtain ⟨a0, w01, A01⟩ := wM g1 n1; obtain ⟨r1, w02, A02⟩ := wS u32 a0 (by have := A01.out; omega); have HI1 := hide (dig_init u32 v n1 n0 u1 g1 a0 r1 HV.out.1 HV.out.2.1 HN.out HV.out.2.2.2.2.2.2.2.1 HV.out.2.2.2.2.2.2.2.2.1 HV.out.2.2.2.2.2.2.1 GG.out A01.out A02.out))
 go_loop [15, 16] (fun x1 x2 => ∃ (q r : Nat), x1 = .int .u64 q ∧ x2 = .int .u64 r ∧ Hid (DigRel u32 v n1 u1 q r)) (fun x1 _ => (intOf x1).toNat)
 case atStart => exact ⟨g1, r1, rfl, rfl, HI1.out⟩
 case round =>
   obtain ⟨q, r, rfl, rfl, HR⟩ := hrel
   by_cases c1 : q * v ≤ u32 * 4294967296 + u1
   · have hstop := dig_stop u32 v n1 n0 u1 q r HV.out.1 HV.out.2.1 HV.out.2.2.2.2.2.2.2.1 HV.out.2.2.2.2.2.2.1 HR.out c1
     obtain ⟨m1, x1, X1⟩ := wM q n0
     obtain ⟨m2, x2, X2⟩ := wlM r
     obtain ⟨m3, x3, X3⟩ := wA m2 u1
     have hq : ¬ ((4294967296 : Int) ≤ (q : Int)) := by have := hstop.1; omega
     have hm : ¬ ((m3 : Int) < (m1 : Int)) := by have := dig_noWrap n0 u1 q r m1 m2 m3 HV.out.2.1 HV.out.2.2.2.2.2.2.1 hstop.1 HR.out.2.1 X1.out X2.out X3.out; have h3 := hstop.2; omega
     have HQ : Hid (q * v ≤ u32 * 4294967296 + u1 ∧ u32 * 4294967296 + u1 < (q + 1) * v ∧ q < 4294967296) := ⟨c1, HR.out.2.2, hstop.1⟩
     clear hstop c1
     obtain ⟨a1, w1, A1⟩ := wMl u32
     obtain ⟨a2, w2, A2⟩ := wA a1 u1
     obtain ⟨a3, w3, A3⟩ := wM q v
     obtain ⟨u21, w4, A4⟩ := wS a2 a3 (by have := A3.out; omega)
     have HU := hide (dig_rest u32 v u1 q a1 a2 a3 u21 HV.out HQ.out A1.out A2.out A3.out A4.out)
     obtain ⟨g, t1, t2, G1⟩ := wD u21 n1
     have t3 := wI g (by have := G1.out; have := HU.out; have := HV.out; have : u21 / n1 ≤ u21 := Nat.div_le_self _ _; omega)
     obtain ⟨a4, w6, A5⟩ := wM g n1
     obtain ⟨r0, w7, A6⟩ := wS u21 a4 (by have := A5.out; omega)
     have HI := hide (dig_init u21 v n1 n0 u0 g a4 r0 HV.out.1 HV.out.2.1 HN.out HU.out.2 HV.out.2.2.2.2.2.2.2.2.1 HV.out.2.2.2.2.2.1 G1.out A5.out A6.out)
     go_wp2_with fail
     go_loop [18, 16] (fun x1 x2 => ∃ (p r2 : Nat), x1 = .int .u64 p ∧ x2 = .int .u64 r2 ∧ Hid (DigRel u21 v n1 u0 p r2)) (fun x1 _ => (intOf x1).toNat)
     case atStart => exact ⟨g, r0, rfl, rfl, HI.out⟩
     case round =>
       obtain ⟨p, r2, rfl, rfl, HR⟩ := hrel
       by_cases c1 : p * v ≤ u21 * 4294967296 + u0
       · have hstop := dig_stop u21 v n1 n0 u0 p r2 HV.out.1 HV.out.2.1 HU.out.2 HV.out.2.2.2.2.2.1 HR.out c1
         obtain ⟨m1, x1, X1⟩ := wM p n0
         obtain ⟨m2, x2, X2⟩ := wlM r2
         obtain ⟨m3, x3, X3⟩ := wA m2 u0
         have hq : ¬ ((4294967296 : Int) ≤ (p : Int)) := by have := hstop.1; omega
         have hm : ¬ ((m3 : Int) < (m1 : Int)) := by have := dig_noWrap n0 u0 p r2 m1 m2 m3 HV.out.2.1 HV.out.2.2.2.2.2.1 hstop.1 HR.out.2.1 X1.out X2.out X3.out; have h3 := hstop.2; omega
         have HQ0 : Hid (p * v ≤ u21 * 4294967296 + u0 ∧ u21 * 4294967296 + u0 < (p + 1) * v ∧ p < 4294967296) := ⟨c1, HR.out.2.2, hstop.1⟩
         obtain ⟨b1, y1, Y1⟩ := wMl q
         obtain ⟨b2, y2, Y2⟩ := wA b1 p
         obtain ⟨b3, y3, Y3⟩ := wMl u21
         obtain ⟨b4, y4, Y4⟩ := wA b3 u0
         obtain ⟨b5, y5, Y5⟩ := wM p v
         obtain ⟨b6, y6, Y6⟩ := wS b4 b5 (by have := Y5.out; omega)
         have HF := hide (div_fin hi lo y s v u32 u10 u1 u0 n1 n0 q p u21 b1 b2 b3 b4 b5 b6 HV.out HQ.out HU.out HQ0.out h1 Y1.out Y2.out Y3.out Y4.out Y5.out Y6.out)
         clear hstop c1
         go_wp2_with fail
         go_ret2
         exact ⟨rr2 (by rw [← HDQ.out, HF.out.1]) (by rw [← HDR.out, HF.out.2]; exact sh2 b6 s), rfl⟩
       · have hs2 := dig_dec u21 v n1 n0 u0 p r2 HV.out.1 HV.out.2.1 HN.out.1 HU.out.2 HV.out.2.2.2.2.2.1 HR.out c1
         obtain ⟨p', z1, Z1⟩ := wS1 p
         obtain ⟨r2', z2, Z2⟩ := wA r2 n1
         obtain ⟨hp, hd, hb⟩ := hs2 p' r2' (by have := HR.out.2.1; have := HV.out; omega) (bnd_u21 u21 v n1 p r2 HV.out.2.2.1 HU.out.2 HV.out.2.2.2.2.2.2.2.2.1 HR.out.1) Z1.out Z2.out
         have hp := hide hp
         have hd := hide hd
         have hb := hide hb
         by_cases hq : 4294967296 ≤ p
         · have hqI : (4294967296 : Int) ≤ (p : Int) := by omega
           by_cases hr : 4294967296 ≤ r2'
           · have hrI : (4294967296 : Int) ≤ (r2' : Int) := by omega
             have HQ0 : Hid (p' * v ≤ u21 * 4294967296 + u0 ∧ u21 * 4294967296 + u0 < (p' + 1) * v ∧ p' < 4294967296) := hb.out hr
             obtain ⟨b1, y1, Y1⟩ := wMl q
             obtain ⟨b2, y2, Y2⟩ := wA b1 p'
             obtain ⟨b3, y3, Y3⟩ := wMl u21
             obtain ⟨b4, y4, Y4⟩ := wA b3 u0
             obtain ⟨b5, y5, Y5⟩ := wM p' v
             obtain ⟨b6, y6, Y6⟩ := wS b4 b5 (by have := Y5.out; omega)
             have HF := hide (div_fin hi lo y s v u32 u10 u1 u0 n1 n0 q p' u21 b1 b2 b3 b4 b5 b6 HV.out HQ.out HU.out HQ0.out h1 Y1.out Y2.out Y3.out Y4.out Y5.out Y6.out)
             clear c1 hq hr hs2
             go_wp2_with fail
             go_ret2
             exact ⟨rr2 (by rw [← HDQ.out, HF.out.1]) (by rw [← HDR.out, HF.out.2]; exact sh2 b6 s), rfl⟩
           · have hrI : ¬ ((4294967296 : Int) ≤ (r2' : Int)) := by omega
             have HD := hide (hd.out (by omega))
             have hlt : p' < p := hp.out
             clear c1 hq hr hs2
             go_wp2_with fail
             exact ⟨⟨p', r2', rfl, rfl, HD.out⟩, by simp [intOf]; omega⟩
         · obtain ⟨m1, x1, X1⟩ := wM p n0
           obtain ⟨m2, x2, X2⟩ := wlM r2
           obtain ⟨m3, x3, X3⟩ := wA m2 u0
           have hqI : ¬ ((4294967296 : Int) ≤ (p : Int)) := by omega
           have hm : ((m3 : Int) < (m1 : Int)) := by
             have h4 := dig_noWrap n0 u0 p r2 m1 m2 m3 HV.out.2.1 HV.out.2.2.2.2.2.1 (by omega) HR.out.2.1 X1.out X2.out X3.out
             have h5 := dig_iff u21 v n1 n0 u0 p r2 HV.out.1 HR.out.1
             omega
           by_cases hr : 4294967296 ≤ r2'
           · have hrI : (4294967296 : Int) ≤ (r2' : Int) := by omega
             have HQ0 : Hid (p' * v ≤ u21 * 4294967296 + u0 ∧ u21 * 4294967296 + u0 < (p' + 1) * v ∧ p' < 4294967296) := hb.out hr
             obtain ⟨b1, y1, Y1⟩ := wMl q
             obtain ⟨b2, y2, Y2⟩ := wA b1 p'
             obtain ⟨b3, y3, Y3⟩ := wMl u21
             obtain ⟨b4, y4, Y4⟩ := wA b3 u0
             obtain ⟨b5, y5, Y5⟩ := wM p' v
             obtain ⟨b6, y6, Y6⟩ := wS b4 b5 (by have := Y5.out; omega)
             have HF := hide (div_fin hi lo y s v u32 u10 u1 u0 n1 n0 q p' u21 b1 b2 b3 b4 b5 b6 HV.out HQ.out HU.out HQ0.out h1 Y1.out Y2.out Y3.out Y4.out Y5.out Y6.out)
             clear c1 hq hr hs2
             go_wp2_with fail
             go_ret2
             exact ⟨rr2 (by rw [← HDQ.out, HF.out.1]) (by rw [← HDR.out, HF.out.2]; exact sh2 b6 s), rfl⟩
           · have hrI : ¬ ((4294967296 : Int) ≤ (r2' : Int)) := by omega
             have HD := hide (hd.out (by omega))
             have hlt : p' < p := hp.out
             clear c1 hq hr hs2
             go_wp2_with fail
             exact ⟨⟨p', r2', rfl, rfl, HD.out⟩, by simp [intOf]; omega⟩
   · have hs2 := dig_dec u32 v n1 n0 u1 q r HV.out.1 HV.out.2.1 HN.out.1 HV.out.2.2.2.2.2.2.2.1 HV.out.2.2.2.2.2.2.1 HR.out c1
     obtain ⟨q', z1, Z1⟩ := wS1 q
     obtain ⟨r', z2, Z2⟩ := wA r n1
     obtain ⟨hp, hd, hb⟩ := hs2 q' r' (by have := HR.out.2.1; have := HV.out; omega) (bnd_u21 u32 v n1 q r HV.out.2.2.1 HV.out.2.2.2.2.2.2.2.1 HV.out.2.2.2.2.2.2.2.2.1 HR.out.1) Z1.out Z2.out
     have hp := hide hp
     have hd := hide hd
     have hb := hide hb
     by_cases hq : 4294967296 ≤ q
     · have hqI : (4294967296 : Int) ≤ (q : Int) := by omega
       by_cases hr : 4294967296 ≤ r'
       · have hrI : (4294967296 : Int) ≤ (r' : Int) := by omega
         have HQ : Hid (q' * v ≤ u32 * 4294967296 + u1 ∧ u32 * 4294967296 + u1 < (q' + 1) * v ∧ q' < 4294967296) := hb.out hr
         clear c1 hq hr hs2
         obtain ⟨a1, w1, A1⟩ := wMl u32
         obtain ⟨a2, w2, A2⟩ := wA a1 u1
         obtain ⟨a3, w3, A3⟩ := wM q' v
         obtain ⟨u21, w4, A4⟩ := wS a2 a3 (by have := A3.out; omega)
         have HU := hide (dig_rest u32 v u1 q' a1 a2 a3 u21 HV.out HQ.out A1.out A2.out A3.out A4.out)
         obtain ⟨g, t1, t2, G1⟩ := wD u21 n1
         have t3 := wI g (by have := G1.out; have := HU.out; have := HV.out; have : u21 / n1 ≤ u21 := Nat.div_le_self _ _; omega)
         obtain ⟨a4, w6, A5⟩ := wM g n1
         obtain ⟨r0, w7, A6⟩ := wS u21 a4 (by have := A5.out; omega)
         have HI := hide (dig_init u21 v n1 n0 u0 g a4 r0 HV.out.1 HV.out.2.1 HN.out HU.out.2 HV.out.2.2.2.2.2.2.2.2.1 HV.out.2.2.2.2.2.1 G1.out A5.out A6.out)
         go_wp2_with fail
         go_loop [18, 16] (fun x1 x2 => ∃ (p r2 : Nat), x1 = .int .u64 p ∧ x2 = .int .u64 r2 ∧ Hid (DigRel u21 v n1 u0 p r2)) (fun x1 _ => (intOf x1).toNat)
         case atStart => exact ⟨g, r0, rfl, rfl, HI.out⟩
         case round =>
           obtain ⟨p, r2, rfl, rfl, HR⟩ := hrel
           by_cases c1 : p * v ≤ u21 * 4294967296 + u0
           · have hstop := dig_stop u21 v n1 n0 u0 p r2 HV.out.1 HV.out.2.1 HU.out.2 HV.out.2.2.2.2.2.1 HR.out c1
             obtain ⟨m1, x1, X1⟩ := wM p n0
             obtain ⟨m2, x2, X2⟩ := wlM r2
             obtain ⟨m3, x3, X3⟩ := wA m2 u0
             have hq : ¬ ((4294967296 : Int) ≤ (p : Int)) := by have := hstop.1; omega
             have hm : ¬ ((m3 : Int) < (m1 : Int)) := by have := dig_noWrap n0 u0 p r2 m1 m2 m3 HV.out.2.1 HV.out.2.2.2.2.2.1 hstop.1 HR.out.2.1 X1.out X2.out X3.out; have h3 := hstop.2; omega
             have HQ0 : Hid (p * v ≤ u21 * 4294967296 + u0 ∧ u21 * 4294967296 + u0 < (p + 1) * v ∧ p < 4294967296) := ⟨c1, HR.out.2.2, hstop.1⟩
             obtain ⟨b1, y1, Y1⟩ := wMl q'
             obtain ⟨b2, y2, Y2⟩ := wA b1 p
             obtain ⟨b3, y3, Y3⟩ := wMl u21
             obtain ⟨b4, y4, Y4⟩ := wA b3 u0
             obtain ⟨b5, y5, Y5⟩ := wM p v
             obtain ⟨b6, y6, Y6⟩ := wS b4 b5 (by have := Y5.out; omega)
             have HF := hide (div_fin hi lo y s v u32 u10 u1 u0 n1 n0 q' p u21 b1 b2 b3 b4 b5 b6 HV.out HQ.out HU.out HQ0.out h1 Y1.out Y2.out Y3.out Y4.out Y5.out Y6.out)
             clear hstop c1
             go_wp2_with fail
             go_ret2
             exact ⟨rr2 (by rw [← HDQ.out, HF.out.1]) (by rw [← HDR.out, HF.out.2]; exact sh2 b6 s), rfl⟩
           · have hs2 := dig_dec u21 v n1 n0 u0 p r2 HV.out.1 HV.out.2.1 HN.out.1 HU.out.2 HV.out.2.2.2.2.2.1 HR.out c1
             obtain ⟨p', z1, Z1⟩ := wS1 p
             obtain ⟨r2', z2, Z2⟩ := wA r2 n1
             obtain ⟨hp, hd, hb⟩ := hs2 p' r2' (by have := HR.out.2.1; have := HV.out; omega) (bnd_u21 u21 v n1 p r2 HV.out.2.2.1 HU.out.2 HV.out.2.2.2.2.2.2.2.2.1 HR.out.1) Z1.out Z2.out
             have hp := hide hp
             have hd := hide hd
             have hb := hide hb
             by_cases hq : 4294967296 ≤ p
             · have hqI : (4294967296 : Int) ≤ (p : Int) := by omega
               by_cases hr : 4294967296 ≤ r2'
               · have hrI : (4294967296 : Int) ≤ (r2' : Int) := by omega
                 have HQ0 : Hid (p' * v ≤ u21 * 4294967296 + u0 ∧ u21 * 4294967296 + u0 < (p' + 1) * v ∧ p' < 4294967296) := hb.out hr
                 obtain ⟨b1, y1, Y1⟩ := wMl q'
                 obtain ⟨b2, y2, Y2⟩ := wA b1 p'
                 obtain ⟨b3, y3, Y3⟩ := wMl u21
                 obtain ⟨b4, y4, Y4⟩ := wA b3 u0
                 obtain ⟨b5, y5, Y5⟩ := wM p' v
                 obtain ⟨b6, y6, Y6⟩ := wS b4 b5 (by have := Y5.out; omega)
                 have HF := hide (div_fin hi lo y s v u32 u10 u1 u0 n1 n0 q' p' u21 b1 b2 b3 b4 b5 b6 HV.out HQ.out HU.out HQ0.out h1 Y1.out Y2.out Y3.out Y4.out Y5.out Y6.out)
                 clear c1 hq hr hs2
                 go_wp2_with fail
                 go_ret2
                 exact ⟨rr2 (by rw [← HDQ.out, HF.out.1]) (by rw [← HDR.out, HF.out.2]; exact sh2 b6 s), rfl⟩
               · have hrI : ¬ ((4294967296 : Int) ≤ (r2' : Int)) := by omega
                 have HD := hide (hd.out (by omega))
                 have hlt : p' < p := hp.out
                 clear c1 hq hr hs2
                 go_wp2_with fail
                 exact ⟨⟨p', r2', rfl, rfl, HD.out⟩, by simp [intOf]; omega⟩
             · obtain ⟨m1, x1, X1⟩ := wM p n0
               obtain ⟨m2, x2, X2⟩ := wlM r2
               obtain ⟨m3, x3, X3⟩ := wA m2 u0
               have hqI : ¬ ((4294967296 : Int) ≤ (p : Int)) := by omega
               have hm : ((m3 : Int) < (m1 : Int)) := by
                 have h4 := dig_noWrap n0 u0 p r2 m1 m2 m3 HV.out.2.1 HV.out.2.2.2.2.2.1 (by omega) HR.out.2.1 X1.out X2.out X3.out
                 have h5 := dig_iff u21 v n1 n0 u0 p r2 HV.out.1 HR.out.1
                 omega
               by_cases hr : 4294967296 ≤ r2'
               · have hrI : (4294967296 : Int) ≤ (r2' : Int) := by omega
                 have HQ0 : Hid (p' * v ≤ u21 * 4294967296 + u0 ∧ u21 * 4294967296 + u0 < (p' + 1) * v ∧ p' < 4294967296) := hb.out hr
                 obtain ⟨b1, y1, Y1⟩ := wMl q'
                 obtain ⟨b2, y2, Y2⟩ := wA b1 p'
                 obtain ⟨b3, y3, Y3⟩ := wMl u21
                 obtain ⟨b4, y4, Y4⟩ := wA b3 u0
                 obtain ⟨b5, y5, Y5⟩ := wM p' v
                 obtain ⟨b6, y6, Y6⟩ := wS b4 b5 (by have := Y5.out; omega)
                 have HF := hide (div_fin hi lo y s v u32 u10 u1 u0 n1 n0 q' p' u21 b1 b2 b3 b4 b5 b6 HV.out HQ.out HU.out HQ0.out h1 Y1.out Y2.out Y3.out Y4.out Y5.out Y6.out)
                 clear c1 hq hr hs2
                 go_wp2_with fail
                 go_ret2
                 exact ⟨rr2 (by rw [← HDQ.out, HF.out.1]) (by rw [← HDR.out, HF.out.2]; exact sh2 b6 s), rfl⟩
               · have hrI : ¬ ((4294967296 : Int) ≤ (r2' : Int)) := by omega
                 have HD := hide (hd.out (by omega))
                 have hlt : p' < p := hp.out
                 clear c1 hq hr hs2
                 go_wp2_with fail
                 exact ⟨⟨p', r2', rfl, rfl, HD.out⟩, by simp [intOf]; omega⟩
       · have hrI : ¬ ((4294967296 : Int) ≤ (r' : Int)) := by omega
         have HD := hide (hd.out (by omega))
         have hlt : q' < q := hp.out
         clear c1 hq hr hs2
         go_wp2_with fail
         exact ⟨⟨q', r', rfl, rfl, HD.out⟩, by simp [intOf]; omega⟩
     · obtain ⟨m1, x1, X1⟩ := wM q n0
       obtain ⟨m2, x2, X2⟩ := wlM r
       obtain ⟨m3, x3, X3⟩ := wA m2 u1
       have hqI : ¬ ((4294967296 : Int) ≤ (q : Int)) := by omega
       have hm : ((m3 : Int) < (m1 : Int)) := by
         have h4 := dig_noWrap n0 u1 q r m1 m2 m3 HV.out.2.1 HV.out.2.2.2.2.2.2.1 (by omega) HR.out.2.1 X1.out X2.out X3.out
         have h5 := dig_iff u32 v n1 n0 u1 q r HV.out.1 HR.out.1
         omega
       by_cases hr : 4294967296 ≤ r'
       · have hrI : (4294967296 : Int) ≤ (r' : Int) := by omega
         have HQ : Hid (q' * v ≤ u32 * 4294967296 + u1 ∧ u32 * 4294967296 + u1 < (q' + 1) * v ∧ q' < 4294967296) := hb.out hr
         clear c1 hq hr hs2
         obtain ⟨a1, w1, A1⟩ := wMl u32
         obtain ⟨a2, w2, A2⟩ := wA a1 u1
         obtain ⟨a3, w3, A3⟩ := wM q' v
         obtain ⟨u21, w4, A4⟩ := wS a2 a3 (by have := A3.out; omega)
         have HU := hide (dig_rest u32 v u1 q' a1 a2 a3 u21 HV.out HQ.out A1.out A2.out A3.out A4.out)
         obtain ⟨g, t1, t2, G1⟩ := wD u21 n1
         have t3 := wI g (by have := G1.out; have := HU.out; have := HV.out; have : u21 / n1 ≤ u21 := Nat.div_le_self _ _; omega)
         obtain ⟨a4, w6, A5⟩ := wM g n1
         obtain ⟨r0, w7, A6⟩ := wS u21 a4 (by have := A5.out; omega)
         have HI := hide (dig_init u21 v n1 n0 u0 g a4 r0 HV.out.1 HV.out.2.1 HN.out HU.out.2 HV.out.2.2.2.2.2.2.2.2.1 HV.out.2.2.2.2.2.1 G1.out A5.out A6.out)
         go_wp2_with fail
         go_loop [18, 16] (fun x1 x2 => ∃ (p r2 : Nat), x1 = .int .u64 p ∧ x2 = .int .u64 r2 ∧ Hid (DigRel u21 v n1 u0 p r2)) (fun x1 _ => (intOf x1).toNat)
         case atStart => exact ⟨g, r0, rfl, rfl, HI.out⟩
         case round =>
           obtain ⟨p, r2, rfl, rfl, HR⟩ := hrel
           by_cases c1 : p * v ≤ u21 * 4294967296 + u0
           · have hstop := dig_stop u21 v n1 n0 u0 p r2 HV.out.1 HV.out.2.1 HU.out.2 HV.out.2.2.2.2.2.1 HR.out c1
             obtain ⟨m1, x1, X1⟩ := wM p n0
             obtain ⟨m2, x2, X2⟩ := wlM r2
             obtain ⟨m3, x3, X3⟩ := wA m2 u0
             have hq : ¬ ((4294967296 : Int) ≤ (p : Int)) := by have := hstop.1; omega
             have hm : ¬ ((m3 : Int) < (m1 : Int)) := by have := dig_noWrap n0 u0 p r2 m1 m2 m3 HV.out.2.1 HV.out.2.2.2.2.2.1 hstop.1 HR.out.2.1 X1.out X2.out X3.out; have h3 := hstop.2; omega
             have HQ0 : Hid (p * v ≤ u21 * 4294967296 + u0 ∧ u21 * 4294967296 + u0 < (p + 1) * v ∧ p < 4294967296) := ⟨c1, HR.out.2.2, hstop.1⟩
             obtain ⟨b1, y1, Y1⟩ := wMl q'
             obtain ⟨b2, y2, Y2⟩ := wA b1 p
             obtain ⟨b3, y3, Y3⟩ := wMl u21
             obtain ⟨b4, y4, Y4⟩ := wA b3 u0
             obtain ⟨b5, y5, Y5⟩ := wM p v
             obtain ⟨b6, y6, Y6⟩ := wS b4 b5 (by have := Y5.out; omega)
             have HF := hide (div_fin hi lo y s v u32 u10 u1 u0 n1 n0 q' p u21 b1 b2 b3 b4 b5 b6 HV.out HQ.out HU.out HQ0.out h1 Y1.out Y2.out Y3.out Y4.out Y5.out Y6.out)
             clear hstop c1
             go_wp2_with fail
             go_ret2
             exact ⟨rr2 (by rw [← HDQ.out, HF.out.1]) (by rw [← HDR.out, HF.out.2]; exact sh2 b6 s), rfl⟩
           · have hs2 := dig_dec u21 v n1 n0 u0 p r2 HV.out.1 HV.out.2.1 HN.out.1 HU.out.2 HV.out.2.2.2.2.2.1 HR.out c1
             obtain ⟨p', z1, Z1⟩ := wS1 p
             obtain ⟨r2', z2, Z2⟩ := wA r2 n1
             obtain ⟨hp, hd, hb⟩ := hs2 p' r2' (by have := HR.out.2.1; have := HV.out; omega) (bnd_u21 u21 v n1 p r2 HV.out.2.2.1 HU.out.2 HV.out.2.2.2.2.2.2.2.2.1 HR.out.1) Z1.out Z2.out
             have hp := hide hp
             have hd := hide hd
             have hb := hide hb
             by_cases hq : 4294967296 ≤ p
             · have hqI : (4294967296 : Int) ≤ (p : Int) := by omega
               by_cases hr : 4294967296 ≤ r2'
               · have hrI : (4294967296 : Int) ≤ (r2' : Int) := by omega
                 have HQ0 : Hid (p' * v ≤ u21 * 4294967296 + u0 ∧ u21 * 4294967296 + u0 < (p' + 1) * v ∧ p' < 4294967296) := hb.out hr
                 obtain ⟨b1, y1, Y1⟩ := wMl q'
                 obtain ⟨b2, y2, Y2⟩ := wA b1 p'
                 obtain ⟨b3, y3, Y3⟩ := wMl u21
                 obtain ⟨b4, y4, Y4⟩ := wA b3 u0
                 obtain ⟨b5, y5, Y5⟩ := wM p' v
                 obtain ⟨b6, y6, Y6⟩ := wS b4 b5 (by have := Y5.out; omega)
                 have HF := hide (div_fin hi lo y s v u32 u10 u1 u0 n1 n0 q' p' u21 b1 b2 b3 b4 b5 b6 HV.out HQ.out HU.out HQ0.out h1 Y1.out Y2.out Y3.out Y4.out Y5.out Y6.out)
                 clear c1 hq hr hs2
                 go_wp2_with fail
                 go_ret2
                 exact ⟨rr2 (by rw [← HDQ.out, HF.out.1]) (by rw [← HDR.out, HF.out.2]; exact sh2 b6 s), rfl⟩
               · have hrI : ¬ ((4294967296 : Int) ≤ (r2' : Int)) := by omega
                 have HD := hide (hd.out (by omega))
                 have hlt : p' < p := hp.out
                 clear c1 hq hr hs2
                 go_wp2_with fail
                 exact ⟨⟨p', r2', rfl, rfl, HD.out⟩, by simp [intOf]; omega⟩
             · obtain ⟨m1, x1, X1⟩ := wM p n0
               obtain ⟨m2, x2, X2⟩ := wlM r2
               obtain ⟨m3, x3, X3⟩ := wA m2 u0
               have hqI : ¬ ((4294967296 : Int) ≤ (p : Int)) := by omega
               have hm : ((m3 : Int) < (m1 : Int)) := by
                 have h4 := dig_noWrap n0 u0 p r2 m1 m2 m3 HV.out.2.1 HV.out.2.2.2.2.2.1 (by omega) HR.out.2.1 X1.out X2.out X3.out
                 have h5 := dig_iff u21 v n1 n0 u0 p r2 HV.out.1 HR.out.1
                 omega
               by_cases hr : 4294967296 ≤ r2'
               · have hrI : (4294967296 : Int) ≤ (r2' : Int) := by omega
                 have HQ0 : Hid (p' * v ≤ u21 * 4294967296 + u0 ∧ u21 * 4294967296 + u0 < (p' + 1) * v ∧ p' < 4294967296) := hb.out hr
                 obtain ⟨b1, y1, Y1⟩ := wMl q'
                 obtain ⟨b2, y2, Y2⟩ := wA b1 p'
                 obtain ⟨b3, y3, Y3⟩ := wMl u21
                 obtain ⟨b4, y4, Y4⟩ := wA b3 u0
                 obtain ⟨b5, y5, Y5⟩ := wM p' v
                 obtain ⟨b6, y6, Y6⟩ := wS b4 b5 (by have := Y5.out; omega)
                 have HF := hide (div_fin hi lo y s v u32 u10 u1 u0 n1 n0 q' p' u21 b1 b2 b3 b4 b5 b6 HV.out HQ.out HU.out HQ0.out h1 Y1.out Y2.out Y3.out Y4.out Y5.out Y6.out)
                 clear c1 hq hr hs2
                 go_wp2_with fail
                 go_ret2
                 exact ⟨rr2 (by rw [← HDQ.out, HF.out.1]) (by rw [← HDR.out, HF.out.2]; exact sh2 b6 s), rfl⟩
               · have hrI : ¬ ((4294967296 : Int) ≤ (r2' : Int)) := by omega
                 have HD := hide (hd.out (by omega))
                 have hlt : p' < p := hp.out
                 clear c1 hq hr hs2
                 go_wp2_with fail
                 exact ⟨⟨p', r2', rfl, rfl, HD.out⟩, by simp [intOf]; omega⟩
       · have hrI : ¬ ((4294967296 : Int) ≤ (r' : Int)) := by omega
         have HD := hide (hd.out (by omega))
         have hlt : q' < q := hp.out
         clear c1 hq hr hs2
         go_wp2_with fail
         exact ⟨⟨q', r', rfl, rfl, HD.out⟩, by simp [intOf]; omega⟩
open Go Go.RowKit
theorem b_div64_small (lo y : Nat) (w : World) (h2 : y < 18446744073709551616) (h3 : lo < 18446744073709551616) (h0 : 0 < y) :
   Calls Tryz.prog 92 #[.int .u64 0, .int .u64 (lo : Int), .int .u64 (y : Int)] w fun e w' => ∃ n, e = .returned (.tuple #[.int .u64 ((lo / y : Nat) : Int), .int .u64 ((lo % y : Nat) : Int)]) ∧ w' = w.drewN n := by
 have e1 : ((y : Int) == 0) = false := by simp; omega
 have e3 : ¬ ((y : Int) ≤ 0) := by omega
 have e4 : ¬ (y ≤ 0) := by omega
 have e5 : ¬ ((y : Int) = 0) := by omega
 have e6 : ¬ (y = 0) := by omega
 obtain ⟨q, t1, t2, Q⟩ := wD lo y
 obtain ⟨r, hr⟩ : ∃ r, lo % y = r := ⟨_, rfl⟩
 have t4 : (lo : Int).tmod (y : Int) = (r : Int) := by rw [← hr]; exact (Int.ofNat_tmod lo y).symm
 have t5 : (lo : Int) % (y : Int) = (r : Int) := by rw [← hr]; exact (Int.natCast_emod lo y).symm
 have hq : q < 18446744073709551616 := by have := Q.out; have : lo / y ≤ lo := Nat.div_le_self _ _; omega
 have hr2 : r < 18446744073709551616 := by rw [← hr]; have := Nat.mod_lt lo h0; omega
 have t3 := wI q hq
 have t6 := wI r hr2
 have HR := hide hr
 rw [← Q.out, hr]
 clear hr
 go_enter Tryz.func92, Tryz.ntmps92
 go_wp2_with fail
 go_quiet (fail)
 go_wp2_with fail
 go_ret2
 exact ⟨_, rfl, rfl⟩
def TwoRet (q r : Nat) (w : World) (e : Ending) (w' : World) : Prop := e = .returned (.tuple #[.int .u64 (q : Int), .int .u64 (r : Int)]) ∧ Ext w w'
theorem b_div64 (hi lo y q r : Nat) (w : World) (h1 : hi < y) (h2 : y < 18446744073709551616) (h3 : lo < 18446744073709551616) (hq : Hid ((hi * 18446744073709551616 + lo) / y = q)) (hr : Hid ((hi * 18446744073709551616 + lo) % y = r)) :
   Calls Tryz.prog 92 #[.int .u64 (hi : Int), .int .u64 (lo : Int), .int .u64 (y : Int)] w (TwoRet q r w) := by
 by_cases h0 : 0 < hi
 · refine (b_div64_big hi lo y w h1 h2 h3 h0).mono ?_
   rintro e w' ⟨rfl, rfl⟩
   exact ⟨by rw [hq.out, hr.out], Ext.refl _⟩
 · obtain rfl : hi = 0 := by omega
   refine (b_div64_small lo y w h2 h3 h1).mono ?_
   rintro e w' ⟨n, rfl, rfl⟩
   refine ⟨?_, ext_drewN _ _⟩
   have := hq.out
   have := hr.out
   simp only [Nat.zero_mul, Nat.zero_add] at *
   simp [*]
def DivRel (L os : List Nat) (b k c : Nat) : Prop := os.length = L.length ∧ os.take k = L.take k ∧ c < b ∧ val (os.drop k) * b + c = val (L.drop k)
theorem DivRel.step {L os : List Nat} {b j c x q r : Nat} (h : DivRel L os b (j + 1) c) (hj : j < L.length) (hx : L[j] = x) (bx : x < 18446744073709551616) (hb : 0 < b) (hq : (c * 18446744073709551616 + x) / b = q) (hr : (c * 18446744073709551616 + x) % b = r) :
   DivRel L (os.set j q) b j r ∧ q < 18446744073709551616 ∧ r < b ∧ ∀ h : j < os.length, os[j] = x := by
 obtain ⟨h1, h2, h3, h4⟩ := h
 have hjo : j < os.length := by omega
 have e := Nat.div_add_mod (c * 18446744073709551616 + x) b
 rw [hq, hr] at e
 have hr2 : r < b := by rw [← hr]; exact Nat.mod_lt _ hb
 have hq2 : q < 18446744073709551616 := by
   rw [← hq, Nat.div_lt_iff_lt_mul hb]
   have : c * 18446744073709551616 + 18446744073709551616 ≤ b * 18446744073709551616 := by
     have h5 : (c + 1) * 18446744073709551616 ≤ b * 18446744073709551616 := Nat.mul_le_mul_right _ h3
     omega
   have h6 : 18446744073709551616 * b = b * 18446744073709551616 := Nat.mul_comm _ _
   omega
 refine ⟨⟨by simpa using h1, ?_, hr2, ?_⟩, hq2, hr2, ?_⟩
 · rw [List.take_set_of_le (Nat.le_refl _)]
   have := congrArg (List.take j) h2
   rw [List.take_take, List.take_take, Nat.min_eq_left (by omega)] at this
   exact this
 · rw [val_drop _ j (by simpa using hjo), val_drop L j hj, List.getElem_set_self, List.drop_set_of_lt (by omega), hx, ← h4, Nat.add_mul, Nat.mul_assoc]
   generalize val (os.drop (j + 1)) * b = z at *
   rw [Nat.mul_comm b q] at e
   omega
 · intro h0
   have := congrArg (fun l => l[j]?) h2
   simp only [List.getElem?_take, Nat.lt_succ_self, if_true] at this
   rw [List.getElem?_eq_getElem h0, List.getElem?_eq_getElem hj, hx] at this
   exact Option.some.inj this
def DivWordRet (n b : Nat) (w : World) (e : Ending) (w' : World) : Prop := ∃ a1 b1 c1 d1 r : Nat, e = .returned (.tuple #[.agg #[.int .u64 (a1 : Int), .int .u64 (b1 : Int), .int .u64 (c1 : Int), .int .u64 (d1 : Int)], .int .u64 (r : Int)]) ∧ W64 [a1, b1, c1, d1] ∧ mag4 a1 b1 c1 d1 = n / b ∧ r = n % b ∧ Ext w w'
set_option maxHeartbeats 1000000 in
theorem p_divWord (a b c d n y : Nat) (hn : mag4 a b c d = n) (w : World) (hw : W64 [a, b, c, d]) (hy : 0 < y) (hy2 : y < 18446744073709551616) :
   Calls Tryz.prog 99 #[.agg #[.int .u64 (a : Int), .int .u64 (b : Int), .int .u64 (c : Int), .int .u64 (d : Int)], .int .u64 (y : Int)] w (DivWordRet n y w) := by
 have H1 := two_blocks w (.cells #[.int .u64 (a : Int), .int .u64 (b : Int), .int .u64 (c : Int), .int .u64 (d : Int)] 79) (.cells #[.int .u64 0, .int .u64 0, .int .u64 0, .int .u64 0] 79)
 obtain ⟨W, hW⟩ : ∃ W, W = (w.alloc (.cells #[.int .u64 (a : Int), .int .u64 (b : Int), .int .u64 (c : Int), .int .u64 (d : Int)] 79)).alloc (.cells #[.int .u64 0, .int .u64 0, .int .u64 0, .int .u64 0] 79) := ⟨_, rfl⟩
 have E0 : Ext w W := by rw [hW]; exact (ext_alloc _ _).trans (ext_alloc _ _)
 rw [← hW] at H1
 obtain ⟨L, hL⟩ : ∃ L, L = [a, b, c, d] := ⟨_, rfl⟩
 have A0 : Arr W w.heap.size 79 L := by rw [hL]; exact H1.1
 have A1 : Arr W (w.heap.size + 1) 79 [0, 0, 0, 0] := H1.2
 have HL : Hid (L.length = 4) := by rw [hL]; exact rfl
 have VL : Hid (val L = n) := by rw [hL]; exact hn
 rw [← hL] at hw
 have HW := hide hW
 clear hW H1 hL hn
 go_enter Tryz.func99, Tryz.ntmps99
 go_wp2_with fail
 rw [← HW.out]
 clear HW
 go_loopw [7, 6] (fun i t wr => ∃ (k c : Nat) (os : List Nat), i = .int .i64 ((k : Int) - 1) ∧ t = .int .u64 c ∧ k ≤ 4 ∧ Hid (DivRel L os y k c) ∧ W64 os ∧ Arr wr w.heap.size 79 os ∧ Upd w.heap.size W wr) (fun i _ _ => (intOf i + 1).toNat)
 case atStart => exact ⟨4, 0, L, rfl, rfl, by omega, ⟨rfl, rfl, hy, by rw [List.drop_of_length_le (by rw [HL.out]; omega)]; simp [val]⟩, hw, A0, Upd.refl _ _⟩
 case round =>
   obtain ⟨k, c, os, rfl, rfl, hk, HR, wo, hA, hU⟩ := hrel
   have HO : Hid (os.length = 4) := HR.out.1.trans HL.out
   by_cases hk0 : k = 0
   · subst hk0
     have B1 := A1.upd hU (by omega)
     have E1 := hU.ext E0 (Nat.le_refl _)
     have H1 : Hid (val os = n / y ∧ c = n % y) := by
       obtain ⟨_, _, h3, h4⟩ := HR.out
       rw [List.drop_zero, List.drop_zero, VL.out] at h4
       rw [← h4]
       constructor
       · rw [Nat.mul_comm, Nat.mul_add_div hy, Nat.div_eq_of_lt h3, Nat.add_zero]
       · rw [Nat.mul_comm, Nat.mul_add_mod, Nat.mod_eq_of_lt h3]
     obtain ⟨a1, b1, c1, d1, rfl⟩ := four_list HO.out
     obtain ⟨c0, c1', c2, c3, f0, f1, f2, f3⟩ := hA.four
     obtain ⟨d0, d1', d2, d3, g0, g1, g2, g3⟩ := B1.four
     clear hU hA B1
     go_wp2_with fail
     exact bodyPost_ret (v := .tuple #[.agg #[.int .u64 (a1 : Int), .int .u64 (b1 : Int), .int .u64 (c1 : Int), .int .u64 (d1 : Int)], .int .u64 (c : Int)]) (by simp [results, Tryz.results99, go_sem, d0, d1', d2, d3]) rfl ⟨a1, b1, c1, d1, c, rfl, wo, H1.out.1, H1.out.2, ext_four E1 (by omega) _ _ _ _⟩
   · obtain ⟨j, rfl⟩ : ∃ j, k = j + 1 := ⟨k - 1, by omega⟩
     have hj : j < L.length := by rw [HL.out]; omega
     have hjo : j < os.length := by rw [HO.out]; omega
     obtain ⟨x, hx⟩ : ∃ x, L[j] = x := ⟨_, rfl⟩
     have bx : x < 18446744073709551616 := by rw [← hx]; exact w64_get hw j hj
     obtain ⟨q, hq⟩ : ∃ q, (c * 18446744073709551616 + x) / y = q := ⟨_, rfl⟩
     obtain ⟨r, hr⟩ : ∃ r, (c * 18446744073709551616 + x) % y = r := ⟨_, rfl⟩
     obtain ⟨hS, z1, z2, z3⟩ := HR.out.step hj hx bx hy hq hr
     have cg := hA.at j hjo
     have fg := hA.free j
     rw [z3 hjo] at cg
     have hcy : c < y := HR.out.2.2.1
     have HQ := hide hq
     have HRR := hide hr
     have HS := hide hS
     have HA := hide hA
     have HU := hide hU
     have lg := hA.lt
     clear hq hr hx hS z3 hA hU
     go_wp2_with (go_at_call 92; refine (b_div64 c x y q r _ hcy hy2 bx HQ HRR).mono ?_; rintro e' w' ⟨rfl, hE⟩; have hA2 := HA.out.ext hE; have cg2 := hA2.at j hjo; have fg2 := hA2.free j; have HA3 := hide (hA2.set j q); have HU3 := hide ((HU.out.trans (hE.upd _)).set j (.int .u64 (q : Int))); clear hA2 hE)
     exact ⟨⟨j, _, _, by go_num, rfl, by omega, HS, w64_set wo _ _ z1, HA3.out, HU3.out⟩, by simp [intOf]⟩
open Go Go.RowKit
theorem or_sum' (x y s : Nat) (hs : s ≤ 64) (hy : y < 2 ^ s) (hx : x * 2 ^ s < 18446744073709551616) : bits .or .u64 (y : Int) ((x * 2 ^ s : Nat) : Int) = ((x * 2 ^ s + y : Nat) : Int) := by
 rw [← or_sum x y s hs hy hx]
 show IntKind.u64.wrap ((BitVec.ofInt 64 (y : Int) ||| BitVec.ofInt 64 ((x * 2 ^ s : Nat) : Int)).toNat : Int) = IntKind.u64.wrap ((BitVec.ofInt 64 ((x * 2 ^ s : Nat) : Int) ||| BitVec.ofInt 64 (y : Int)).toNat : Int)
 rw [BitVec.or_comm]
theorem two64 (s : Nat) (hs : s ≤ 64) : (18446744073709551616 : Nat) = 2 ^ s * 2 ^ (64 - s) := by
 rw [← Nat.pow_add, show s + (64 - s) = 64 by omega]
theorem shl_parts (x s c : Nat) (hs : s < 64) (hx : x < 18446744073709551616) (hc : c < 2 ^ s) :
   ∃ l t z : Nat, IntKind.u64.wrap ((x : Int) * 2 ^ s) = (l : Int) ∧ bits .or .u64 (l : Int) (c : Int) = (z : Int) ∧ (x : Int) / 2 ^ (64 - s) = (t : Int) ∧ Hid (z + 18446744073709551616 * t = x * 2 ^ s + c ∧ z < 18446744073709551616 ∧ t < 2 ^ s) := by
 have c2 : ((2 : Int) ^ s) = ((2 ^ s : Nat) : Int) := by rw [Int.natCast_pow]; rfl
 have c3 : ((2 : Int) ^ (64 - s)) = ((2 ^ (64 - s) : Nat) : Int) := by rw [Int.natCast_pow]; rfl
 have hp := two64 s (by omega)
 have ps := Nat.two_pow_pos s
 have pt := Nat.two_pow_pos (64 - s)
 have e1 := Nat.div_add_mod x (2 ^ (64 - s))
 have hm := Nat.mod_lt x pt
 have hl : x % 2 ^ (64 - s) * 2 ^ s < 18446744073709551616 := by
   rw [hp, Nat.mul_comm (2 ^ s)]; exact Nat.mul_lt_mul_of_pos_right hm ps
 have e2 : x * 2 ^ s = x % 2 ^ (64 - s) * 2 ^ s + 18446744073709551616 * (x / 2 ^ (64 - s)) := by
   have h1 := congrArg (· * 2 ^ s) e1
   simp only [Nat.add_mul] at h1
   have h2 : 2 ^ (64 - s) * (x / 2 ^ (64 - s)) * 2 ^ s = 18446744073709551616 * (x / 2 ^ (64 - s)) := by
     rw [hp, Nat.mul_right_comm, Nat.mul_comm (2 ^ (64 - s)) (2 ^ s)]
   omega
 have ht : x / 2 ^ (64 - s) < 2 ^ s := by rw [Nat.div_lt_iff_lt_mul pt, ← hp]; exact hx
 have ho := or_sum (x % 2 ^ (64 - s)) c s (by omega) hc hl
 have hz : x % 2 ^ (64 - s) * 2 ^ s + c < 18446744073709551616 := by
   have h3 : (x % 2 ^ (64 - s) + 1) * 2 ^ s ≤ 2 ^ (64 - s) * 2 ^ s := Nat.mul_le_mul_right _ hm
   rw [Nat.add_mul, Nat.one_mul, Nat.mul_comm (2 ^ (64 - s)), ← hp] at h3
   omega
 refine ⟨x % 2 ^ (64 - s) * 2 ^ s, x / 2 ^ (64 - s), x % 2 ^ (64 - s) * 2 ^ s + c, ?_, ho, ?_, ?_⟩
 · rw [c2, ← Int.natCast_mul, wrap_u64', e2]; omega
 · rw [c3, Int.natCast_ediv]
 · exact ⟨by omega, hz, ht⟩
def UpRel (L os : List Nat) (s k c : Nat) : Prop := os.length = L.length ∧ os.drop k = L.drop k ∧ c < 2 ^ s ∧ val (os.take k) + 18446744073709551616 ^ k * c = val (L.take k) * 2 ^ s
theorem UpRel.step {L os : List Nat} {s k c x z t : Nat} (h : UpRel L os s k c) (hk : k < L.length) (hx : L[k] = x) (hz : z + 18446744073709551616 * t = x * 2 ^ s + c ∧ z < 18446744073709551616 ∧ t < 2 ^ s) : UpRel L (os.set k z) s (k + 1) t := by
 obtain ⟨h1, h2, h3, h4⟩ := h
 refine ⟨by simpa using h1, by rw [drop_set]; exact (drop_get h2 (by omega) hk).2, hz.2.2, ?_⟩
 rw [val_set_take _ _ _ (by omega), val_take_succ L k hk, hx, Nat.pow_succ, Nat.add_mul, ← h4, Nat.mul_assoc, Nat.mul_assoc]
 have e := congrArg (18446744073709551616 ^ k * ·) hz.1
 simp only [Nat.mul_add] at e
 omega
def ShiftRet (n s : Nat) (w : World) (e : Ending) (w' : World) : Prop := ∃ a1 b1 c1 d1 r : Nat, e = .returned (.tuple #[.agg #[.int .u64 (a1 : Int), .int .u64 (b1 : Int), .int .u64 (c1 : Int), .int .u64 (d1 : Int)], .int .u64 (r : Int)]) ∧ W64 [a1, b1, c1, d1] ∧ mag4 a1 b1 c1 d1 + 115792089237316195423570985008687907853269984665640564039457584007913129639936 * r = n * 2 ^ s ∧ r < 2 ^ s ∧ Ext w w'
set_option maxHeartbeats 1000000 in
theorem p_shiftUp (a b c d n s : Nat) (hn : mag4 a b c d = n) (w : World) (hw : W64 [a, b, c, d]) (hs : s < 64) :
   Calls Tryz.prog 101 #[.agg #[.int .u64 (a : Int), .int .u64 (b : Int), .int .u64 (c : Int), .int .u64 (d : Int)], .int .u64 (s : Int)] w (ShiftRet n s w) := by
 have H1 := two_blocks w (.cells #[.int .u64 (a : Int), .int .u64 (b : Int), .int .u64 (c : Int), .int .u64 (d : Int)] 79) (.cells #[.int .u64 0, .int .u64 0, .int .u64 0, .int .u64 0] 79)
 obtain ⟨W, hW⟩ : ∃ W, W = (w.alloc (.cells #[.int .u64 (a : Int), .int .u64 (b : Int), .int .u64 (c : Int), .int .u64 (d : Int)] 79)).alloc (.cells #[.int .u64 0, .int .u64 0, .int .u64 0, .int .u64 0] 79) := ⟨_, rfl⟩
 have E0 : Ext w W := by rw [hW]; exact (ext_alloc _ _).trans (ext_alloc _ _)
 rw [← hW] at H1
 obtain ⟨L, hL⟩ : ∃ L, L = [a, b, c, d] := ⟨_, rfl⟩
 have A0 : Arr W w.heap.size 79 L := by rw [hL]; exact H1.1
 have A1 : Arr W (w.heap.size + 1) 79 [0, 0, 0, 0] := H1.2
 have HL : Hid (L.length = 4) := by rw [hL]; exact rfl
 have VL : Hid (val L = n) := by rw [hL]; exact hn
 have HLL := hide hL
 rw [← hL] at hw
 have HW := hide hW
 clear hW H1 hL hn
 go_enter Tryz.func101, Tryz.ntmps101
 go_wp2_with fail
 rw [← HW.out]
 clear HW
 go_loopw [10, 6] (fun i t wr => ∃ (k c : Nat) (os : List Nat), i = .int .i64 k ∧ t = .int .u64 c ∧ k ≤ 4 ∧ Hid (UpRel L os s k c) ∧ W64 os ∧ Arr wr w.heap.size 79 os ∧ Upd w.heap.size W wr) (fun i _ _ => 4 - (intOf i).toNat)
 case atStart => exact ⟨0, 0, L, rfl, rfl, by omega, ⟨rfl, rfl, Nat.two_pow_pos _, by simp [val]⟩, hw, A0, Upd.refl _ _⟩
 case round =>
   obtain ⟨k, c', os, rfl, rfl, hk, HR, wo, hA, hU⟩ := hrel
   have HO : Hid (os.length = 4) := HR.out.1.trans HL.out
   by_cases hk4 : k < 4
   · have hkL : k < L.length := by rw [HL.out]; omega
     have hko : k < os.length := by rw [HO.out]; omega
     obtain ⟨x, hx⟩ : ∃ x, L[k] = x := ⟨_, rfl⟩
     have bx : x < 18446744073709551616 := by rw [← hx]; exact w64_get hw k hkL
     have hidx : ∀ w, (Instr.index 79 (.agg #[.int .u64 (a : Int), .int .u64 (b : Int), .int .u64 (c : Int), .int .u64 (d : Int)]) (.int .i64 (k : Int))).run Tryz.prog w = .ok (.int .u64 (x : Int)) w := by
       have e := HLL.out; subst e; exact idxRun a b c d k x hkL hx
     obtain ⟨l, t, z, z1, z2, z3, HZ⟩ := shl_parts x s c' hs bx HR.out.2.2.1
     have HS := hide (HR.out.step hkL hx HZ.out)
     have cg := hA.at k hko
     have fg := hA.free k
     have HA := hide (hA.set k z)
     have HU := hide (hU.set k (.int .u64 (z : Int)))
     have w2 := w64_set wo k z HZ.out.2.1
     clear hx hA hU
     go_wp2_with fail
     exact ⟨⟨k + 1, _, _, by go_num, rfl, by omega, HS, w2, HA.out, HU.out⟩, by simp [intOf]; omega⟩
   · obtain rfl : k = 4 := by omega
     have B1 := A1.upd hU (by omega)
     have E1 := hU.ext E0 (Nat.le_refl _)
     have H1 : Hid (val os + 18446744073709551616 ^ 4 * c' = n * 2 ^ s) := by
       obtain ⟨_, _, h3, h4⟩ := HR.out
       rw [List.take_of_length_le (by rw [HO.out]; omega), List.take_of_length_le (by rw [HL.out]; omega), VL.out] at h4
       exact h4
     obtain ⟨a1, b1, c1, d1, rfl⟩ := four_list HO.out
     obtain ⟨c0, c1', c2, c3, f0, f1, f2, f3⟩ := hA.four
     obtain ⟨d0, d1', d2, d3, g0, g1, g2, g3⟩ := B1.four
     clear hU hA B1
     go_wp2_with fail
     exact bodyPost_ret (v := .tuple #[.agg #[.int .u64 (a1 : Int), .int .u64 (b1 : Int), .int .u64 (c1 : Int), .int .u64 (d1 : Int)], .int .u64 (c' : Int)]) (by simp [results, Tryz.results101, go_sem, d0, d1', d2, d3]) rfl ⟨a1, b1, c1, d1, c', rfl, wo, by have h := H1.out; rw [p4] at h; exact h, HR.out.2.2.1, ext_four E1 (by omega) _ _ _ _⟩
open Go Go.RowKit
theorem shr_parts (x s m : Nat) (hs : s < 64) (hx : x < 18446744073709551616) (hm : m < 2 ^ s) :
   ∃ l t z o : Nat, (x : Int) / 2 ^ s = (l : Int) ∧ IntKind.u64.wrap ((x : Int) * 2 ^ (64 - s)) = (t : Int) ∧ bits .or .u64 (l : Int) ((m * 2 ^ (64 - s) : Nat) : Int) = (z : Int) ∧ Hid (t = o * 2 ^ (64 - s) ∧ o < 2 ^ s ∧ z * 2 ^ s + o = x + 18446744073709551616 * m ∧ z < 18446744073709551616) := by
 have c2 : ((2 : Int) ^ s) = ((2 ^ s : Nat) : Int) := by rw [Int.natCast_pow]; rfl
 have c3 : ((2 : Int) ^ (64 - s)) = ((2 ^ (64 - s) : Nat) : Int) := by rw [Int.natCast_pow]; rfl
 have hp := two64 s (by omega)
 have ps := Nat.two_pow_pos s
 have pt := Nat.two_pow_pos (64 - s)
 have hl : x / 2 ^ s < 2 ^ (64 - s) := by rw [Nat.div_lt_iff_lt_mul ps, Nat.mul_comm, ← hp]; exact hx
 have hmt : m * 2 ^ (64 - s) < 18446744073709551616 := by rw [hp]; exact Nat.mul_lt_mul_of_pos_right hm pt
 have ho := or_sum' m (x / 2 ^ s) (64 - s) (by omega) hl hmt
 have e1 := Nat.div_add_mod x (2 ^ s)
 have h2 := Nat.mod_lt x ps
 have hz : m * 2 ^ (64 - s) + x / 2 ^ s < 18446744073709551616 := by
   have h3 : (m + 1) * 2 ^ (64 - s) ≤ 2 ^ s * 2 ^ (64 - s) := Nat.mul_le_mul_right _ hm
   rw [Nat.add_mul, Nat.one_mul, ← hp] at h3
   omega
 have ht : x * 2 ^ (64 - s) % 18446744073709551616 = x % 2 ^ s * 2 ^ (64 - s) := by rw [hp, Nat.mul_mod_mul_right]
 refine ⟨x / 2 ^ s, x * 2 ^ (64 - s) % 18446744073709551616, m * 2 ^ (64 - s) + x / 2 ^ s, x % 2 ^ s, ?_, ?_, ho, ht, h2, ?_, hz⟩
 · rw [c2, Int.natCast_ediv]
 · rw [c3, ← Int.natCast_mul, wrap_u64', Int.natCast_emod]; rfl
 · rw [Nat.add_mul, Nat.mul_assoc, Nat.mul_comm (2 ^ (64 - s)) (2 ^ s), ← hp, Nat.mul_comm (x / 2 ^ s) (2 ^ s)]
   omega
def DownRel (L os : List Nat) (s k m : Nat) : Prop := os.length = L.length ∧ os.take k = L.take k ∧ m < 2 ^ s ∧ val (os.drop k) * 2 ^ s + m = val (L.drop k)
theorem take_at {L os : List Nat} {j x : Nat} (h : os.take (j + 1) = L.take (j + 1)) (hj : j < L.length) (hx : L[j] = x) (h0 : j < os.length) : os[j] = x := by
 have := congrArg (fun l => l[j]?) h
 simp only [List.getElem?_take, Nat.lt_succ_self, if_true] at this
 rw [List.getElem?_eq_getElem h0, List.getElem?_eq_getElem hj, hx] at this
 exact Option.some.inj this
theorem DownRel.step {L os : List Nat} {s j m x z o : Nat} (h : DownRel L os s (j + 1) m) (hj : j < L.length) (hx : L[j] = x) (ho : o < 2 ^ s) (hz : z * 2 ^ s + o = x + 18446744073709551616 * m) : DownRel L (os.set j z) s j o := by
 obtain ⟨h1, h2, h3, h4⟩ := h
 have hjo : j < os.length := by omega
 refine ⟨by simpa using h1, ?_, ho, ?_⟩
 · rw [List.take_set_of_le (Nat.le_refl _)]
   have := congrArg (List.take j) h2
   rw [List.take_take, List.take_take, Nat.min_eq_left (by omega)] at this
   exact this
 · rw [val_drop _ j (by simpa using hjo), val_drop L j hj, List.getElem_set_self, List.drop_set_of_lt (by omega), hx, ← h4, Nat.add_mul, Nat.mul_assoc]
   generalize val (os.drop (j + 1)) * 2 ^ s = y at *
   generalize z * 2 ^ s = t at *
   omega
set_option maxHeartbeats 1000000 in
theorem p_shiftDown (a b c d n s : Nat) (hn : mag4 a b c d = n) (w : World) (hw : W64 [a, b, c, d]) (hs : s < 64) :
   Calls Tryz.prog 103 #[.agg #[.int .u64 (a : Int), .int .u64 (b : Int), .int .u64 (c : Int), .int .u64 (d : Int)], .int .u64 (s : Int)] w (WordsOnly (n / 2 ^ s) w) := by
 have H1 := two_blocks w (.cells #[.int .u64 (a : Int), .int .u64 (b : Int), .int .u64 (c : Int), .int .u64 (d : Int)] 79) (.cells #[.int .u64 0, .int .u64 0, .int .u64 0, .int .u64 0] 79)
 obtain ⟨W, hW⟩ : ∃ W, W = (w.alloc (.cells #[.int .u64 (a : Int), .int .u64 (b : Int), .int .u64 (c : Int), .int .u64 (d : Int)] 79)).alloc (.cells #[.int .u64 0, .int .u64 0, .int .u64 0, .int .u64 0] 79) := ⟨_, rfl⟩
 have E0 : Ext w W := by rw [hW]; exact (ext_alloc _ _).trans (ext_alloc _ _)
 rw [← hW] at H1
 obtain ⟨L, hL⟩ : ∃ L, L = [a, b, c, d] := ⟨_, rfl⟩
 have A0 : Arr W w.heap.size 79 L := by rw [hL]; exact H1.1
 have A1 : Arr W (w.heap.size + 1) 79 [0, 0, 0, 0] := H1.2
 have HL : Hid (L.length = 4) := by rw [hL]; exact rfl
 have VL : Hid (val L = n) := by rw [hL]; exact hn
 rw [← hL] at hw
 have HW := hide hW
 clear hW H1 hL hn
 go_enter Tryz.func103, Tryz.ntmps103
 go_wp2_with fail
 rw [← HW.out]
 clear HW
 go_loopw [6, 5] (fun i t wr => ∃ (k c m : Nat) (os : List Nat), i = .int .i64 ((k : Int) - 1) ∧ t = .int .u64 c ∧ k ≤ 4 ∧ Hid (c = m * 2 ^ (64 - s)) ∧ Hid (DownRel L os s k m) ∧ W64 os ∧ Arr wr w.heap.size 79 os ∧ Upd w.heap.size W wr) (fun i _ _ => (intOf i + 1).toNat)
 case atStart => exact ⟨4, 0, 0, L, rfl, rfl, by omega, by simp [Hid], ⟨rfl, rfl, Nat.two_pow_pos _, by rw [List.drop_of_length_le (by rw [HL.out]; omega)]; simp [val]⟩, hw, A0, Upd.refl _ _⟩
 case round =>
   obtain ⟨k, c', m, os, rfl, rfl, hk, HC, HR, wo, hA, hU⟩ := hrel
   have HO : Hid (os.length = 4) := HR.out.1.trans HL.out
   by_cases hk0 : k = 0
   · subst hk0
     have B1 := A1.upd hU (by omega)
     have E1 := hU.ext E0 (Nat.le_refl _)
     have H1 : Hid (val os = n / 2 ^ s) := by
       obtain ⟨_, _, h3, h4⟩ := HR.out
       rw [List.drop_zero, List.drop_zero, VL.out] at h4
       unfold Hid
       rw [← h4, Nat.mul_comm, Nat.mul_add_div (Nat.two_pow_pos _), Nat.div_eq_of_lt h3, Nat.add_zero]
     obtain ⟨a1, b1, c1, d1, rfl⟩ := four_list HO.out
     obtain ⟨c0, c1', c2, c3, f0, f1, f2, f3⟩ := hA.four
     obtain ⟨d0, d1', d2, d3, g0, g1, g2, g3⟩ := B1.four
     clear hU hA B1
     go_wp2_with fail
     exact bodyPost_ret (v := .agg #[.int .u64 (a1 : Int), .int .u64 (b1 : Int), .int .u64 (c1 : Int), .int .u64 (d1 : Int)]) (by simp [results, Tryz.results103, go_sem, d0, d1', d2, d3]) rfl ⟨a1, b1, c1, d1, rfl, wo, H1.out, ext_four E1 (by omega) _ _ _ _⟩
   · obtain ⟨j, rfl⟩ : ∃ j, k = j + 1 := ⟨k - 1, by omega⟩
     have hj : j < L.length := by rw [HL.out]; omega
     have hjo : j < os.length := by rw [HO.out]; omega
     obtain ⟨x, hx⟩ : ∃ x, L[j] = x := ⟨_, rfl⟩
     have bx : x < 18446744073709551616 := by rw [← hx]; exact w64_get hw j hj
     obtain ⟨l, t, z, o, z1, z2, z3, HZ⟩ := shr_parts x s m hs bx HR.out.2.2.1
     rw [← HC.out] at z3
     have HS := hide (HR.out.step hj hx HZ.out.2.1 HZ.out.2.2.1)
     have cg := hA.at j hjo
     rw [take_at HR.out.2.1 hj hx hjo] at cg
     have fg := hA.free j
     have HA := hide (hA.set j z)
     have HU := hide (hU.set j (.int .u64 (z : Int)))
     have w2 := w64_set wo j z HZ.out.2.2.2
     have HC2 : Hid (t = o * 2 ^ (64 - s)) := HZ.out.1
     clear hx hA hU
     go_wp2_with fail
     exact ⟨⟨j, _, o, _, by go_num, rfl, by omega, HC2, HS, w2, HA.out, HU.out⟩, by first | (simp [intOf]; done) | (simp [intOf]; omega)⟩
def guessV (h l t : Nat) : Nat := if t ≤ h then 18446744073709551615 else (h * 18446744073709551616 + l) / t
end
end Go.Proofs.YthlbkidgdngblaaGreat
