/- Part 2 of what these claims stand on: contracts of the program's and the reference's functions, and plain facts. Conditions: each states its own. -/
import Derived.Test.YthcnbpeeekkgkaaPrC1
import Derived.Laws.Tables
import Derived.Great.BuildSlice
import Derived.Deep.RegionLaw
import Derived.ShutString
import Derived.ChangeOld
import Derived.Below
import Derived.Laws.EntriesVeiled
import Derived.Deep.RegionHeld3
namespace Go.Proofs.Ythcnbpeeekkgkaa
set_option linter.unusedVariables false
set_option linter.unusedSimpArgs false
section
open Go Go.RowKit
inductive Tg | q | sk | al | st (j : Nat) | so (k : Nat) | ev (m : Nat)
 deriving DecidableEq
def tgOf (kd : List Tg) (i : Nat) : Tg := kd.getD i .q
def Tg.known : Tg → Bool | .q => true | .sk => true | .ev _ => true | _ => false
def calmE (l : List Oper) (kd : List Tg) (o : Oper) (x : Operand) : Bool :=
 match x with
 | .tmp t => (List.range l.length).all fun k => dstOf l k != some t || (dep o k && (tgOf kd k).known)
 | _ => true
def okE (l : List Oper) (kd : List Tg) (i : Nat) : Bool :=
 match l[i]? with
 | none => false
 | some o => (match o.guard with | none => tgOf kd i != .sk | some (k, _) => dep o k && decide (k < l.length) && (dstOf l k).isSome && (tgOf kd k).known) && (match o.op with | .select .. => false | _ => true) &&
   (o.after.all fun e => !Region.binds .any e || decide (e.on < i)) &&
   ((List.range l.length).all fun k => k == i || (match o.dst with | none => true | some d => dstOf l k != some d)) &&
   (match tgOf kd i with
     | .q => o.op.operands.all fun x => calmE l kd o x
     | .ev m => (o.op.operands.all fun x => calmE l kd o x) && ((List.range l.length).all fun k => k == i || (match tgOf kd k with | .ev m' => m' != m && (!decide (m' < m) || anc l l.length i k) | _ => true))
     | .sk => true
     | .al => true
     | .st j => (match o.op with
         | .store _ (.tmp t) x => o.dst.isNone && dstOf l j == some t && dep o j && tgOf kd j == .al && calmE l kd o x && ((List.range l.length).all fun k => k == i || tgOf kd k != .st j)
         | _ => false)
     | .so c => (match o.op with
         | .store _ p x => o.dst.isNone && calmE l kd o p && calmE l kd o x && ((List.range l.length).all fun k => k == i || tgOf kd k != .so c)
         | _ => false))
def chkE (l : List Oper) (kd : List Tg) : Bool := (List.range l.length).all fun i => okE l kd i
def frE (l : List Oper) (u : Nat → Value) (a0 : Act) (S : List Nat) : Act := S.foldl (fun a i => a.put (dstOf l i) (u i)) a0
def slE (t : Tg) (v : Value) (g : Nat) (R : Nat → Value) : Value := match t with | .q => v | .al => ptrTo g | .ev m => R m | _ => undef
def uE (kd : List Tg) (V : (Nat → Value) → List Value) (R : Nat → Value) (G : Nat → Nat) (i : Nat) : Value := slE (tgOf kd i) ((V R).getD i undef) (G i) R
def yB : Value → Option Bool | .bool b => some b | _ => none
def SameE (kd : List Tg) (tgt : Nat → Nat) (E : Nat → Prop) (W w : World) : Prop := w.os = W.os ∧ w.tape = W.tape ∧ w.output = W.output ∧ W.heap.size ≤ w.heap.size ∧ ∀ k, k < W.heap.size → ¬ E k → (∀ c, .so c ∈ kd → tgt c ≠ k) → w.heap[k]? = W.heap[k]?
def GrowE (E : Nat → Prop) (w w' : World) : Prop := w'.os = w.os ∧ w'.tape = w.tape ∧ w'.output = w.output ∧ w.heap.size ≤ w'.heap.size ∧ ∀ k, k < w.heap.size → ¬ E k → w'.heap[k]? = w.heap[k]?
def updR (R : Nat → Value) (m : Nat) (r : Value) : Nat → Value := fun k => if k = m then r else R k
def eUpon (P : Program) (T : Nat → (Nat → Value) → World → Prop) (E : Nat → Prop) (m : Nat) (R : Nat → Value) (w : World) : Result Next → Prop
 | .ok (.enter f args) w' => w' = w ∧ Calls P f args w (fun e w'' => ∃ r, e = .returned r ∧ T (m + 1) (updR R m r) w'' ∧ GrowE E w w'')
 | .ok (.value r) w' => T (m + 1) (updR R m r) w' ∧ GrowE E w w'
 | _ => False
def RuleE (P : Program) (T : Nat → (Nat → Value) → World → Prop) (E : Nat → Prop) (l : List Oper) (kd : List Tg) (nd : List Nat) (V : (Nat → Value) → List Value) (zero : Nat → Obj) (full : (Nat → Value) → Nat → Obj) (tgt : Nat → Nat) (W : World) (A : (Nat → Value) → Act) (i : Nat) (o : Oper) : Prop :=
 (∀ k b, o.guard = some (k, b) → ∀ R s w, T s R w → nd.getD i 0 ≤ s → (yB (uE kd V R (fun _ => 0) k) == some b) = (tgOf kd i != .sk)) ∧
 match tgOf kd i with
 | .q => ∀ R s w, T s R w → nd.getD i 0 ≤ s → SameE kd tgt E W w → (∀ m c, tgOf kd m = .so c → anc l l.length m i = true → w.heap[tgt c]? = W.heap[tgt c]?) → qUpon P w ((V R).getD i undef) ((execOp (A R).eval o).run P w)
 | .ev m => ∀ R w, T m R w → SameE kd tgt E W w → eUpon P T E m R w ((execOp (A R).eval o).run P w)
 | .sk => True
 | .al => ∀ (ρ : Operand → Value) (w : World), (execOp ρ o).run P w = .ok (.value (ptrTo w.heap.size)) (w.alloc (zero i))
 | .st j => (match o.op with
   | .store _ t x => ∀ R s (ρ : Operand → Value) (w : World) (g : Nat), T s R w → nd.getD i 0 ≤ s → ρ t = ptrTo g → ρ x = (A R).eval x → W.heap.size ≤ g → w.heap[g]? = some (zero j) → Stores P ρ o w g (full R i) ∧ ∀ w1, Filled w w1 g (full R i) → T s R w1
   | _ => False)
 | .so c => (match o.op with
   | .store _ p x => ∀ R s (ρ : Operand → Value) (w : World), T s R w → nd.getD i 0 ≤ s → ρ p = (A R).eval p → ρ x = (A R).eval x → w.heap[tgt c]? = W.heap[tgt c]? → Stores P ρ o w (tgt c) (full R i) ∧ ∀ w1, Filled w w1 (tgt c) (full R i) → T s R w1
   | _ => False)
structure EInv (T : Nat → (Nat → Value) → World → Prop) (E : Nat → Prop) (l : List Oper) (kd : List Tg) (zero : Nat → Obj) (full : (Nat → Value) → Nat → Obj) (tgt : Nat → Nat) (W : World) (S : List Nat) (s : Nat) (R : Nat → Value) (G : Nat → Nat) (w : World) : Prop where
 nd : S.Nodup
 inn : ∀ i ∈ S, i < l.length
 same : SameE kd tgt E W w
 made : ∀ i ∈ S, tgOf kd i = .al → W.heap.size ≤ G i ∧ G i < w.heap.size
 apart : ∀ i ∈ S, ∀ j ∈ S, tgOf kd i = .al → tgOf kd j = .al → G i = G j → i = j
 zeros : ∀ i ∈ S, tgOf kd i = .al → (∀ s ∈ S, tgOf kd s ≠ .st i) → w.heap[G i]? = some (zero i)
 fulls : ∀ s ∈ S, ∀ i, tgOf kd s = .st i → i ∈ S ∧ tgOf kd i = .al ∧ w.heap[G i]? = some (full R s)
 olds : ∀ s, s < l.length → ∀ c, tgOf kd s = .so c → s ∉ S → w.heap[tgt c]? = W.heap[tgt c]?
 olds' : ∀ s ∈ S, ∀ c, tgOf kd s = .so c → w.heap[tgt c]? = some (full R s)
 cl : ∀ s ∈ S, ∀ o, l[s]? = some o → ∀ k, dep o k = true → k ∈ S
 stage : ∀ i, i < l.length → ∀ m, tgOf kd i = .ev m → (i ∈ S ↔ m < s)
 holds : T s R w
section
variable {l : List Oper} {kd : List Tg} {V : (Nat → Value) → List Value}
theorem frE_none (u : Nat → Value) (t : Tmp) : ∀ (S : List Nat) (a0 : Act), (∀ k ∈ S, dstOf l k ≠ some t) → (frE l u a0 S).tmps[t]? = a0.tmps[t]?
 | [], a0, _ => rfl
 | k :: S, a0, h => by
   show (frE l u (a0.put (dstOf l k) (u k)) S).tmps[t]? = _
   rw [frE_none u t S _ (fun j hj => h j (by simp [hj]))]
   have hk := h k (by simp)
   cases hd : dstOf l k with
   | none => rfl
   | some d =>
     have : d ≠ t := fun e => hk (by rw [hd, e])
     simp [Act.put, Array.getElem?_setIfInBounds_ne this]
theorem frE_some (u : Nat → Value) (t : Tmp) (k : Nat) (hk : dstOf l k = some t) : ∀ (S : List Nat) (a0 : Act), S.Nodup → k ∈ S → (∀ j ∈ S, dstOf l j = some t → j = k) → (frE l u a0 S).tmps[t]? = if t < a0.tmps.size then some (u k) else none
 | [], a0, _, h, _ => by simp at h
 | j :: S, a0, hn, h, hu => by
   show (frE l u (a0.put (dstOf l j) (u j)) S).tmps[t]? = _
   obtain ⟨hj, hn'⟩ := List.nodup_cons.1 hn
   by_cases e : j = k
   · subst e
     rw [frE_none u t S _ (fun i hi he => hj (by rw [← hu i (by simp [hi]) he]; exact hi)), hk]
     simp [Act.put, Array.getElem?_setIfInBounds]
   · have hkS : k ∈ S := by
       rcases List.mem_cons.1 h with h | h
       · exact absurd h.symm e
       · exact h
     rw [frE_some u t k hk S _ hn' hkS (fun i hi he => hu i (by simp [hi]) he), put_size]
theorem frE_congr (u u' : Nat → Value) : ∀ (S : List Nat) (a0 : Act), (∀ i ∈ S, u i = u' i) → frE l u a0 S = frE l u' a0 S
 | [], _, _ => rfl
 | k :: S, a0, h => by
   show frE l u (a0.put (dstOf l k) (u k)) S = frE l u' (a0.put (dstOf l k) (u' k)) S
   rw [h k (by simp)]
   exact frE_congr u u' S _ (fun i hi => h i (by simp [hi]))
theorem frE_snoc (u : Nat → Value) (a0 : Act) (S : List Nat) (i : Nat) : frE l u a0 (S ++ [i]) = (frE l u a0 S).put (dstOf l i) (u i) := by
 unfold frE; rw [List.foldl_append]; rfl
theorem frE_perm (u : Nat → Value) (a0 : Act) {S S' : List Nat} (h : S.Perm S') (h1 : OneWriter l) : frE l u a0 S = frE l u a0 S' := by
 unfold frE
 refine List.Perm.foldl_eq' h (fun x hx y hy a => ?_) a0
 by_cases e : x = y
 · subst e; rfl
 · exact Act.put_comm a _ _ (fun d hd hy => e (h1 x y d hd hy))
theorem okE_of (h : chkE l kd = true) {i : Nat} {o : Oper} (ho : l[i]? = some o) : okE l kd i = true := by
 unfold chkE at h
 rw [List.all_eq_true] at h
 exact h i (List.mem_range.2 (List.getElem?_eq_some_iff.1 ho).1)
theorem one_writerE (h : chkE l kd = true) : OneWriter l := by
 intro i j t hi hj
 have hil := dst_lt hi
 have hjl := dst_lt hj
 have := okE_of h (List.getElem?_eq_getElem hil)
 unfold okE at this
 rw [List.getElem?_eq_getElem hil] at this
 simp only [Bool.and_eq_true, List.all_eq_true] at this
 have hu := this.1.2 j (List.mem_range.2 hjl)
 have hd : l[i].dst = some t := by unfold dstOf at hi; rw [List.getElem?_eq_getElem hil] at hi; simpa using hi
 rw [hd] at hu
 simp [hj] at hu
 exact hu.symm
theorem specE (h : chkE l kd = true) {i : Nat} {o : Oper} (ho : l[i]? = some o) : (o.guard = none → tgOf kd i ≠ .sk) ∧ (∀ k b, o.guard = some (k, b) → dep o k = true ∧ k < l.length ∧ (∃ d, dstOf l k = some d) ∧ (tgOf kd k).known = true) ∧ (∀ cs b, o.op ≠ .select cs b) ∧ (∀ e ∈ o.after, Region.binds .any e = true → e.on < i) ∧
   ((tgOf kd i = .q ∨ ∃ m, tgOf kd i = .ev m) → ∀ x ∈ o.op.operands, calmE l kd o x = true) ∧
   (∀ m, tgOf kd i = .ev m → ∀ k, k < l.length → ∀ m', tgOf kd k = .ev m' → (m' = m → k = i) ∧ (m' < m → anc l l.length i k = true)) ∧
   (∀ j, tgOf kd i = .st j → ∃ T t x, o.op = .store T (.tmp t) x ∧ o.dst = none ∧ dstOf l j = some t ∧ dep o j = true ∧ tgOf kd j = .al ∧ calmE l kd o x = true ∧ ∀ k, k < l.length → tgOf kd k = .st j → k = i) ∧
   (∀ c, tgOf kd i = .so c → ∃ T p x, o.op = .store T p x ∧ o.dst = none ∧ calmE l kd o p = true ∧ calmE l kd o x = true ∧ ∀ k, k < l.length → tgOf kd k = .so c → k = i) := by
 have := okE_of h ho
 unfold okE at this
 rw [ho] at this
 simp only [Bool.and_eq_true] at this
 obtain ⟨⟨⟨⟨h1, h2⟩, h3⟩, h4⟩, h5⟩ := this
 refine ⟨?_, ?_, ?_, ?_, ?_, ?_, ?_, ?_⟩
 · intro hg
   rw [hg] at h1
   simpa using h1
 · intro k b hg
   rw [hg] at h1
   simp only [Bool.and_eq_true] at h1
   obtain ⟨⟨⟨a1, a2⟩, a3⟩, a4⟩ := h1
   exact ⟨a1, by simpa using a2, Option.isSome_iff_exists.1 a3, a4⟩
 · intro cs b e
   rw [e] at h2; simp at h2
 · intro e he hb
   have := Array.all_eq_true_iff_forall_mem.1 h3 e he
   rw [hb] at this; simpa using this
 · rintro (ht | ⟨m, ht⟩)
   · simp only [ht] at h5
     intro x hx
     exact Array.all_eq_true_iff_forall_mem.1 h5 x hx
   · simp only [ht, Bool.and_eq_true] at h5
     intro x hx
     exact Array.all_eq_true_iff_forall_mem.1 h5.1 x hx
 · intro m ht k hk m' hm'
   simp only [ht, Bool.and_eq_true, List.all_eq_true] at h5
   have := h5.2 k (List.mem_range.2 hk)
   rw [hm'] at this
   simp only [Bool.or_eq_true, beq_iff_eq, Bool.and_eq_true, bne_iff_ne, Bool.not_eq_true', decide_eq_false_iff_not] at this
   rcases this with rfl | ⟨a, b⟩
   · rw [ht] at hm'
     obtain rfl : m = m' := by simpa using hm'
     exact ⟨fun _ => rfl, fun h => by omega⟩
   · exact ⟨fun e => absurd e a, fun hl => b.resolve_left (fun h => h hl)⟩
 · intro j ht
   simp only [ht] at h5
   split at h5
   · rename_i T t x hop
     simp only [Bool.and_eq_true, List.all_eq_true] at h5
     obtain ⟨⟨⟨⟨⟨g1, g2⟩, g3⟩, g4⟩, g5⟩, g6⟩ := h5
     refine ⟨T, t, x, hop, by simpa using g1, by simpa using g2, g3, by simpa using g4, g5, ?_⟩
     intro k hk hkt
     have := g6 k (List.mem_range.2 hk)
     rw [hkt] at this; simpa using this
   · simp at h5
 · intro c ht
   simp only [ht] at h5
   split at h5
   · rename_i T p x hop
     simp only [Bool.and_eq_true, List.all_eq_true] at h5
     obtain ⟨⟨⟨g1, g2⟩, g3⟩, g4⟩ := h5
     refine ⟨T, p, x, hop, by simpa using g1, g2, g3, ?_⟩
     intro k hk hkt
     have := g4 k (List.mem_range.2 hk)
     rw [hkt] at this; simpa using this
   · simp at h5
variable {T : Nat → (Nat → Value) → World → Prop} {E : Nat → Prop} {zero : Nat → Obj} {full : (Nat → Value) → Nat → Obj} {tgt : Nat → Nat} {a0 : Act} {W : World} {S : List Nat} {s : Nat} {R : Nat → Value} {G : Nat → Nat} {w : World} {nd : List Nat}
theorem uE_known {R : Nat → Value} (G G' : Nat → Nat) {k : Nat} (h : (tgOf kd k).known = true) : uE kd V R G k = uE kd V R G' k := by
 unfold uE slE
 cases ht : tgOf kd k <;> simp [ht, Tg.known] at h ⊢
theorem evalE (hck : chkE l kd = true) (G G' : Nat → Nat) (a0 : Act) (hS : S.Nodup) {o : Oper} (hdep : ∀ k, dep o k = true → k ∈ S) {x : Operand} (hx : calmE l kd o x = true) :
   (frE l (uE kd V R G) a0 S).eval x = (frE l (uE kd V R G') a0 (List.range l.length)).eval x := by
 have h1 := one_writerE hck
 cases x with
 | tmp t =>
   simp only [calmE, List.all_eq_true] at hx
   by_cases hw : ∃ k, dstOf l k = some t
   · obtain ⟨k, hk⟩ := hw
     have hkl := dst_lt hk
     have := hx k (List.mem_range.2 hkl)
     rw [hk] at this
     simp at this
     obtain ⟨hd, hq⟩ := this
     have e1 := frE_some (uE kd V R G) t k hk S a0 hS (hdep k hd) (fun j _ hj => h1 j k t hj hk)
     have e2 := frE_some (uE kd V R G') t k hk (List.range l.length) a0 List.nodup_range (List.mem_range.2 hkl) (fun j _ hj => h1 j k t hj hk)
     simp only [Act.eval, Array.getD_eq_getD_getElem?]
     rw [e1, e2, uE_known G G' hq]
   · have e1 := frE_none (uE kd V R G) t S a0 (fun k _ e => hw ⟨k, e⟩)
     have e2 := frE_none (uE kd V R G') t (List.range l.length) a0 (fun k _ e => hw ⟨k, e⟩)
     simp only [Act.eval, Array.getD_eq_getD_getElem?]
     rw [e1, e2]
 | _ => rfl
theorem readyE_some (hck : chkE l kd = true) {listed : Array Bool} {S : List Nat} (hL : ∀ j, j < l.length → (listed.getD j true = decide (j ∈ S)) ∧ listed.getD j false = decide (j ∈ S)) {m : Nat} (hm : m < l.length) (hmS : m ∉ S) : Region.ready .any l.toArray listed ≠ [] := by
 induction m using Nat.strongRecOn with
 | ind m ih =>
   by_cases hlow : ∃ j, j < m ∧ j ∉ S
   · obtain ⟨j, hj, hjS⟩ := hlow
     exact ih j hj (by omega) hjS
   · intro he
     have : m ∈ Region.ready .any l.toArray listed := by
       unfold Region.ready
       rw [List.mem_filter]
       refine ⟨by simpa using hm, ?_⟩
       rw [List.getElem?_toArray, List.getElem?_eq_getElem hm]
       simp only [Option.map_some, Option.getD_some, Bool.and_eq_true]
       refine ⟨by rw [(hL m hm).1]; simpa using hmS, ?_⟩
       rw [Array.all_eq_true_iff_forall_mem]
       intro e hee
       cases hb : Region.binds .any e
       · rfl
       · have hlt := (specE hck (List.getElem?_eq_getElem hm)).2.2.2.1 e hee hb
         have : e.on ∈ S := Classical.byContradiction fun hn => hlow ⟨e.on, hlt, hn⟩
         simp [(hL e.on (by omega)).2, this]
     rw [he] at this
     simp at this
theorem tg_mem {i : Nat} {c : Nat} (h : tgOf kd i = .so c) : Tg.so c ∈ kd := by
 unfold tgOf at h
 rw [List.getD_eq_getElem?_getD] at h
 cases hx : kd[i]? with
 | none => rw [hx] at h; simp at h
 | some t => rw [hx] at h; simp at h; rw [← h]; exact List.mem_of_getElem? hx
theorem Below.growE {w w' : World} (h : Below w.heap.size w w') : GrowE E w w' := ⟨h.os, h.tape, h.output, h.size, fun k hk _ => h.block k hk⟩
theorem GrowE.kept {w w' : World} {k : Nat} {x : Obj} (h : GrowE E w w') (hk : ¬ E k) (e : w.heap[k]? = some x) : w'.heap[k]? = some x := by
 rw [h.2.2.2.2 k (Array.getElem?_eq_some_iff.1 e).1 hk]; exact e
theorem SameE.grow {w w' : World} (h : SameE kd tgt E W w) (k : GrowE E w w') : SameE kd tgt E W w' :=
 ⟨k.1.trans h.1, k.2.1.trans h.2.1, k.2.2.1.trans h.2.2.1, Nat.le_trans h.2.2.2.1 k.2.2.2.1, fun j hj he hc => (k.2.2.2.2 j (Nat.lt_of_lt_of_le hj h.2.2.2.1) he).trans (h.2.2.2.2 j hj he hc)⟩
theorem stage_snoc (hI : EInv T E l kd zero full tgt W S s R G w) {i : Nat} (hn : ∀ m, tgOf kd i ≠ .ev m) : ∀ j, j < l.length → ∀ m, tgOf kd j = .ev m → (j ∈ S ++ [i] ↔ m < s) := by
 intro j hj m hm
 rw [← hI.stage j hj m hm]
 constructor
 · intro h
   rcases List.mem_append.1 h with h | h
   · exact h
   · simp at h; subst h; exact absurd hm (hn m)
 · intro h; exact List.mem_append.2 (Or.inl h)
theorem inv_grow (hE : ∀ k, E k → k < W.heap.size) (hEt : ∀ c, Tg.so c ∈ kd → ¬ E (tgt c)) (htg : ∀ c, Tg.so c ∈ kd → tgt c < W.heap.size) (hI : EInv T E l kd zero full tgt W S s R G w) {i : Nat} (hi : i < l.length) (hn : i ∉ S) (ht : (tgOf kd i).known = true) (hcl : ∀ o, l[i]? = some o → ∀ k, dep o k = true → k ∈ S) {w' : World} {s' : Nat} {R' : Nat → Value} (hB : GrowE E w w') (hst : ∀ j, j < l.length → ∀ m, tgOf kd j = .ev m → (j ∈ S ++ [i] ↔ m < s')) (hfl : ∀ k ∈ S, full R' k = full R k) (hT : T s' R' w') : EInv T E l kd zero full tgt W (S ++ [i]) s' R' G w' := by
 have hm : ∀ s t, s ∈ S ++ [i] → tgOf kd s = t → t.known = false → s ∈ S := by
   intro s t hs h1 h2
   rcases List.mem_append.1 hs with h | h
   · exact h
   · simp at h; subst h; rw [h1] at ht; rw [ht] at h2; simp at h2
 have hsz := hB.2.2.2.1
 have hold := hI.same.2.2.2.1
 have hne : ∀ k, W.heap.size ≤ k → ¬ E k := fun k hk he => by have := hE k he; omega
 refine ⟨nodup_snoc hI.nd hn, ?_, hI.same.grow hB, ?_, ?_, ?_, ?_, ?_, ?_, cl_snoc hI.cl hcl, hst, hT⟩
 · intro j hj
   rcases List.mem_append.1 hj with h | h
   · exact hI.inn j h
   · simp at h; subst h; exact hi
 · intro j hj hjt
   have := hI.made j (hm j _ hj hjt rfl) hjt
   omega
 · intro j hj k hk h1 h2 h3
   exact hI.apart j (hm j _ hj h1 rfl) k (hm k _ hk h2 rfl) h1 h2 h3
 · intro j hj hjt hno
   have hjS := hm j _ hj hjt rfl
   exact hB.kept (hne _ (hI.made j hjS hjt).1) (hI.zeros j hjS hjt (fun s hs => hno s (by simp [hs])))
 · intro s hs j hst
   obtain ⟨h1, h2, h3⟩ := hI.fulls s (hm s _ hs hst rfl) j hst
   exact ⟨by simp [h1], h2, by rw [hfl s (hm s _ hs hst rfl)]; exact hB.kept (hne _ (hI.made j h1 h2).1) h3⟩
 · intro s hs c hc hns
   have h := hI.olds s hs c hc (fun h => hns (by simp [h]))
   rw [hB.2.2.2.2 _ (Nat.lt_of_lt_of_le (htg c (tg_mem hc)) hold) (hEt c (tg_mem hc))]
   exact h
 · intro s hs c hc
   rw [hfl s (hm s _ hs hc rfl)]
   exact hB.kept (hEt c (tg_mem hc)) (hI.olds' s (hm s _ hs hc rfl) c hc)
theorem inv_alE (hE : ∀ k, E k → k < W.heap.size) (hTB : ∀ s R w w', T s R w → Below w.heap.size w w' → T s R w') (htg : ∀ c, Tg.so c ∈ kd → tgt c < W.heap.size) (hI : EInv T E l kd zero full tgt W S s R G w) {i : Nat} (hi : i < l.length) (hn : i ∉ S) (ht : tgOf kd i = .al) (hcl : ∀ o, l[i]? = some o → ∀ k, dep o k = true → k ∈ S) : EInv T E l kd zero full tgt W (S ++ [i]) s R (fun k => if k = i then w.heap.size else G k) (w.alloc (zero i)) := by
 have hB := below_alloc w (zero i)
 have hne : ∀ j, j ∈ S → j ≠ i := fun j hj e => hn (e ▸ hj)
 have hsz : (w.alloc (zero i)).heap.size = w.heap.size + 1 := by simp
 have hcase : ∀ j, j ∈ S ++ [i] → j ∈ S ∨ j = i := by intro j hj; simpa using hj
 have hnew : (w.alloc (zero i)).heap[w.heap.size]? = some (zero i) := Array.getElem?_push_size
 refine ⟨nodup_snoc hI.nd hn, ?_, hI.same.grow (Below.growE hB), ?_, ?_, ?_, ?_, ?_, ?_, cl_snoc hI.cl hcl, stage_snoc hI (by simp [ht]), hTB _ _ _ _ hI.holds hB⟩
 · intro j hj
   rcases hcase j hj with h | h
   · exact hI.inn j h
   · subst h; exact hi
 · intro j hj hjt
   rcases hcase j hj with h | h
   · have := hI.made j h hjt
     rw [if_neg (hne j h)]; omega
   · subst h
     have := hI.same.2.2.2.1
     simp only [if_true]; omega
 · intro j hj k hk h1 h2 h3
   rcases hcase j hj with qj | qj <;> rcases hcase k hk with qk | qk
   · simp only [if_neg (hne j qj), if_neg (hne k qk)] at h3
     exact hI.apart j qj k qk h1 h2 h3
   · subst qk
     simp only [if_neg (hne j qj), if_true] at h3
     have := (hI.made j qj h1).2
     omega
   · subst qj
     simp only [if_neg (hne k qk), if_true] at h3
     have := (hI.made k qk h2).2
     omega
   · rw [qj, qk]
 · intro j hj hjt hno
   rcases hcase j hj with hj | hj
   · simp only [if_neg (hne j hj)]
     exact kept hB (hI.zeros j hj hjt (fun s hs => hno s (by simp [hs])))
   · subst hj
     simp only [if_true]; exact hnew
 · intro s hs j hst
   rcases hcase s hs with hs' | hs'
   · obtain ⟨h1, h2, h3⟩ := hI.fulls s hs' j hst
     refine ⟨by simp [h1], h2, ?_⟩
     simp only [if_neg (hne j h1)]
     exact kept hB h3
   · subst hs'; rw [ht] at hst; simp at hst
 · intro s hs c hc hns
   have h := hI.olds s hs c hc (fun h => hns (by simp [h]))
   rw [hB.block _ (Nat.lt_of_lt_of_le (htg c (tg_mem hc)) hI.same.2.2.2.1)]
   exact h
 · intro s hs c hc
   rcases hcase s hs with hs' | hs'
   · exact kept hB (hI.olds' s hs' c hc)
   · subst hs'; rw [ht] at hc; simp at hc
theorem inv_stE (hE : ∀ k, E k → k < W.heap.size) (htg : ∀ c, Tg.so c ∈ kd → tgt c < W.heap.size) (hck : chkE l kd = true) (hI : EInv T E l kd zero full tgt W S s R G w) {i j : Nat} {o : Oper} (ho : l[i]? = some o) (hn : i ∉ S) (ht : tgOf kd i = .st j) (hj : j ∈ S) (hcl : ∀ o, l[i]? = some o → ∀ k, dep o k = true → k ∈ S) {w1 : World} (hF : Filled w w1 (G j) (full R i)) (hT : T s R w1) : EInv T E l kd zero full tgt W (S ++ [i]) s R G w1 := by
 have hil := (List.getElem?_eq_some_iff.1 ho).1
 obtain ⟨_, _, _, _, _, _, hst, _⟩ := specE hck ho
 obtain ⟨T', t, x, _, _, _, _, hal, _, huniq⟩ := hst j ht
 obtain ⟨f1, f2, f3, f4, f5, f6⟩ := hF
 have hcase : ∀ k, k ∈ S ++ [i] → k ∈ S ∨ k = i := by intro k hk; simpa using hk
 have hjm := hI.made j hj hal
 have htag : ∀ k, k ∈ S ++ [i] → tgOf kd k = .al → k ∈ S := by
   intro k hk hkt
   rcases hcase k hk with h | h
   · exact h
   · subst h; rw [ht] at hkt; simp at hkt
 have hold : ∀ k, k < W.heap.size → w1.heap[k]? = w.heap[k]? := fun k hk => f2 k (by omega)
 refine ⟨nodup_snoc hI.nd hn, ?_, ⟨f4.trans hI.same.1, f5.trans hI.same.2.1, f6.trans hI.same.2.2.1, by have := hI.same.2.2.2.1; omega, fun k hk he hc => (hold k hk).trans (hI.same.2.2.2.2 k hk he hc)⟩, ?_, ?_, ?_, ?_, ?_, ?_, cl_snoc hI.cl hcl, stage_snoc hI (by simp [ht]), hT⟩
 · intro k hk
   rcases hcase k hk with h | h
   · exact hI.inn k h
   · subst h; exact hil
 · intro k hk hkt
   have := hI.made k (htag k hk hkt) hkt
   omega
 · intro k hk m hm h1 h2 h3
   exact hI.apart k (htag k hk h1) m (htag m hm h2) h1 h2 h3
 · intro k hk hkt hno
   have hkS := htag k hk hkt
   have hkj : k ≠ j := by
     intro e; subst e
     exact hno i (by simp) ht
   rw [f2 (G k) (fun e => hkj (hI.apart k hkS j hj hkt hal e))]
   exact hI.zeros k hkS hkt (fun s hs => hno s (by simp [hs]))
 · intro s hs k hst'
   rcases hcase s hs with hs' | hs'
   · obtain ⟨h1, h2, h3⟩ := hI.fulls s hs' k hst'
     have hkj : k ≠ j := by
       intro e; subst e
       have := huniq s (hI.inn s hs') hst'
       exact hn (this ▸ hs')
     refine ⟨by simp [h1], h2, ?_⟩
     rw [f2 (G k) (fun e => hkj (hI.apart k h1 j hj h2 hal e))]
     exact h3
   · subst hs'
     rw [ht] at hst'
     obtain rfl : j = k := by simpa using hst'
     exact ⟨by simp [hj], hal, f1⟩
 · intro s hs c hc hns
   rw [hold _ (htg c (tg_mem hc))]
   exact hI.olds s hs c hc (fun h => hns (by simp [h]))
 · intro s hs c hc
   rcases hcase s hs with hs' | hs'
   · rw [hold _ (htg c (tg_mem hc))]
     exact hI.olds' s hs' c hc
   · subst hs'; rw [ht] at hc; simp at hc
theorem inv_soE (htg : ∀ c, Tg.so c ∈ kd → tgt c < W.heap.size) (htd : ∀ c c', Tg.so c ∈ kd → Tg.so c' ∈ kd → tgt c = tgt c' → c = c') (hck : chkE l kd = true) (hI : EInv T E l kd zero full tgt W S s R G w) {i c : Nat} {o : Oper} (ho : l[i]? = some o) (hn : i ∉ S) (ht : tgOf kd i = .so c) (hcl : ∀ o, l[i]? = some o → ∀ k, dep o k = true → k ∈ S) {w1 : World} (hF : Filled w w1 (tgt c) (full R i)) (hT : T s R w1) : EInv T E l kd zero full tgt W (S ++ [i]) s R G w1 := by
 have hil := (List.getElem?_eq_some_iff.1 ho).1
 obtain ⟨_, _, _, _, _, _, _, hso⟩ := specE hck ho
 obtain ⟨T', p, x, _, _, _, _, huniq⟩ := hso c ht
 obtain ⟨f1, f2, f3, f4, f5, f6⟩ := hF
 have hcm := tg_mem ht
 have hcl0 := htg c hcm
 have hcase : ∀ k, k ∈ S ++ [i] → k ∈ S ∨ k = i := by intro k hk; simpa using hk
 have htag : ∀ k, k ∈ S ++ [i] → tgOf kd k = .al → k ∈ S := by
   intro k hk hkt
   rcases hcase k hk with h | h
   · exact h
   · subst h; rw [ht] at hkt; simp at hkt
 have hnew : ∀ k, k ∈ S → tgOf kd k = .al → w1.heap[G k]? = w.heap[G k]? := fun k hk hkt => f2 _ (by have := (hI.made k hk hkt).1; omega)
 refine ⟨nodup_snoc hI.nd hn, ?_, ⟨f4.trans hI.same.1, f5.trans hI.same.2.1, f6.trans hI.same.2.2.1, by have := hI.same.2.2.2.1; omega, fun k hk he hc => (f2 k (fun e => hc c hcm e.symm)).trans (hI.same.2.2.2.2 k hk he hc)⟩, ?_, ?_, ?_, ?_, ?_, ?_, cl_snoc hI.cl hcl, stage_snoc hI (by simp [ht]), hT⟩
 · intro k hk
   rcases hcase k hk with h | h
   · exact hI.inn k h
   · subst h; exact hil
 · intro k hk hkt
   have := hI.made k (htag k hk hkt) hkt
   omega
 · intro k hk m hm h1 h2 h3
   exact hI.apart k (htag k hk h1) m (htag m hm h2) h1 h2 h3
 · intro k hk hkt hno
   rw [hnew k (htag k hk hkt) hkt]
   exact hI.zeros k (htag k hk hkt) hkt (fun s hs => hno s (by simp [hs]))
 · intro s hs k hst'
   rcases hcase s hs with hs' | hs'
   · obtain ⟨h1, h2, h3⟩ := hI.fulls s hs' k hst'
     exact ⟨by simp [h1], h2, by rw [hnew k h1 h2]; exact h3⟩
   · subst hs'; rw [ht] at hst'; simp at hst'
 · intro s hs c' hc hns
   have hne : c' ≠ c := by
     intro e; subst e
     have := huniq s hs hc
     subst this; exact hns (by simp)
   rw [f2 _ (fun e => hne (htd c' c (tg_mem hc) hcm e))]
   exact hI.olds s hs c' hc (fun h => hns (by simp [h]))
 · intro s hs c' hc
   rcases hcase s hs with hs' | hs'
   · have hne : c' ≠ c := by
       intro e; subst e
       have := huniq s (hI.inn s hs') hc
       exact hn (this ▸ hs')
     rw [f2 _ (fun e => hne (htd c' c (tg_mem hc) hcm e))]
     exact hI.olds' s hs' c' hc
   · subst hs'
     rw [ht] at hc
     obtain rfl : c = c' := by simpa using hc
     exact f1
end
end
section
open Go Go.RowKit
def ndB (l : List Oper) (kd : List Tg) (nd : List Nat) : Bool := (List.range l.length).all fun i => (match tgOf kd i with | .ev m => nd.getD i 0 == m | _ => true) && (nd.getD i 0 == 0 || (List.range l.length).any fun k => tgOf kd k == .ev (nd.getD i 0 - 1) && anc l l.length i k)
def Stab (nd : List Nat) (R R' : Nat → Value) : Nat → List Value → List Value → Prop
 | i, x :: xs, y :: ys => ((∀ m, m < nd.getD i 0 → R m = R' m) → x = y) ∧ Stab nd R R' (i + 1) xs ys
 | _, [], [] => True
 | _, _, _ => False
theorem Stab.get {nd : List Nat} {R R' : Nat → Value} : ∀ {xs ys : List Value} {k : Nat}, Stab nd R R' k xs ys → ∀ i, (∀ m, m < nd.getD (k + i) 0 → R m = R' m) → xs.getD i undef = ys.getD i undef
 | [], [], _, _, _, _ => rfl
 | x :: xs, y :: ys, k, h, 0, hi => by simpa using h.1 hi
 | x :: xs, y :: ys, k, h, i + 1, hi => by
   have := Stab.get h.2 i (fun m hm => hi m (by rw [show k + (i + 1) = k + 1 + i by omega]; exact hm))
   simpa using this
 | [], _ :: _, _, h, _, _ => h.elim
 | _ :: _, [], _, h, _, _ => h.elim
section
variable {l : List Oper} {kd : List Tg} {V : (Nat → Value) → List Value}
variable {T : Nat → (Nat → Value) → World → Prop} {E : Nat → Prop} {zero : Nat → Obj} {full : (Nat → Value) → Nat → Obj} {tgt : Nat → Nat} {a0 : Act} {W : World} {S : List Nat} {s : Nat} {R : Nat → Value} {G : Nat → Nat} {w : World} {nd : List Nat}
theorem anc_dep (hc : ∀ s ∈ S, ∀ o, l[s]? = some o → ∀ k, dep o k = true → k ∈ S) {i k n : Nat} {o : Oper} (ho : l[i]? = some o) (hdep : ∀ k, dep o k = true → k ∈ S) (h : anc l n i k = true) : k ∈ S := by
 cases n with
 | zero => simp [anc] at h
 | succ n =>
   unfold anc at h
   rw [ho] at h
   simp only [Bool.or_eq_true, List.any_eq_true, Bool.and_eq_true] at h
   rcases h with h | ⟨m, _, hm, h⟩
   · exact hdep k h
   · exact anc_in hc n m k (hdep m hm) h
theorem nd_le (hck : ndB l kd nd = true) (hI : EInv T E l kd zero full tgt W S s R G w) {i : Nat} {o : Oper} (ho : l[i]? = some o) (hdep : ∀ k, dep o k = true → k ∈ S) : nd.getD i 0 ≤ s := by
 unfold ndB at hck
 rw [List.all_eq_true] at hck
 have h := hck i (List.mem_range.2 (List.getElem?_eq_some_iff.1 ho).1)
 simp only [Bool.and_eq_true, Bool.or_eq_true, List.any_eq_true, beq_iff_eq] at h
 rcases h.2 with h | ⟨k, hk, ht, ha⟩
 · omega
 · have hkS := anc_dep hI.cl ho hdep ha
   have := (hI.stage k (List.mem_range.1 hk) _ ht).1 hkS
   omega
theorem nd_in (hck : ndB l kd nd = true) (hI : EInv T E l kd zero full tgt W S s R G w) {i : Nat} (hi : i ∈ S) : nd.getD i 0 ≤ s := by
 have hil := hI.inn i hi
 exact nd_le hck hI (List.getElem?_eq_getElem hil) (hI.cl i hi _ (List.getElem?_eq_getElem hil))
theorem nd_ev (hck : ndB l kd nd = true) {i m : Nat} (hi : i < l.length) (ht : tgOf kd i = .ev m) : nd.getD i 0 = m := by
 unfold ndB at hck
 rw [List.all_eq_true] at hck
 have h := hck i (List.mem_range.2 hi)
 simp only [Bool.and_eq_true] at h
 have := h.1
 rw [ht] at this
 simpa using this
variable {P : Program} {Q : Exit → Act → World → Prop}
theorem stepE (hck : chkE l kd = true) (hnd : ndB l kd nd = true) (hdst : dstB l a0.tmps.size = true) (hE : ∀ k, E k → k < W.heap.size) (hEt : ∀ c, Tg.so c ∈ kd → ¬ E (tgt c)) (htg : ∀ c, Tg.so c ∈ kd → tgt c < W.heap.size) (htd : ∀ c c', Tg.so c ∈ kd → Tg.so c' ∈ kd → tgt c = tgt c' → c = c') (hV : ∀ R R', Stab nd R R' 0 (V R) (V R')) (hFu : ∀ R R' i, (∀ m, m < nd.getD i 0 → R m = R' m) → full R i = full R' i)
   (hTB : ∀ s R w w', T s R w → Below w.heap.size w w' → T s R w')
   (hops : AllOps (RuleE P T E l kd nd V zero full tgt W (fun R => frE l (uE kd V R (fun _ => 0)) a0 (List.range l.length))) 0 l)
   (hI : EInv T E l kd zero full tgt W S s R G w) {i : Nat} {o : Oper} (ho : l[i]? = some o) (hn : i ∉ S) (hdep : ∀ k, dep o k = true → k ∈ S)
   {K : Act → World → Prop} (hK : ∀ s' R' G' w', EInv T E l kd zero full tgt W (S ++ [i]) s' R' G' w' → K (frE l (uE kd V R' G') a0 (S ++ [i])) w') :
   if Region.wanted o (yielded l.toArray (frE l (uE kd V R G) a0 S).tmps) = true then Oper.wp P o (frE l (uE kd V R G) a0 S) w K Q else K ((frE l (uE kd V R G) a0 S).put o.dst undef) w := by
 have hil := (List.getElem?_eq_some_iff.1 ho).1
 obtain ⟨hg0, hg1, hs, _, hq, hev, hst, hso⟩ := specE hck ho
 have hrule := hops.get i o ho
 rw [Nat.zero_add] at hrule
 obtain ⟨hgd, hrule⟩ := hrule
 have hd : dstOf l i = o.dst := by unfold dstOf; rw [ho]; rfl
 have hcl : ∀ o, l[i]? = some o → ∀ k, dep o k = true → k ∈ S := by
   intro o' ho' k hk
   rw [ho] at ho'
   obtain rfl : o = o' := by simpa using ho'
   exact hdep k hk
 have hns := nd_le hnd hI ho hdep
 have hev' : ∀ x, calmE l kd o x = true → (frE l (uE kd V R G) a0 S).eval x = (frE l (uE kd V R (fun _ => 0)) a0 (List.range l.length)).eval x := fun x hx => evalE hck G _ a0 hI.nd hdep hx
 have hwant : Region.wanted o (yielded l.toArray (frE l (uE kd V R G) a0 S).tmps) = (tgOf kd i != .sk) := by
   unfold Region.wanted
   cases hg : o.guard with
   | none =>
     have := hg0 hg
     simp [this]
   | some p =>
     obtain ⟨k, b⟩ := p
     obtain ⟨hdk, hkl, ⟨d, hdd⟩, hkn⟩ := hg1 k b hg
     have e := frE_some (uE kd V R G) d k hdd S a0 hI.nd (hdep k hdk) (fun j _ hj => one_writerE hck j k d hj hdd)
     rw [if_pos (dst_in hdst hdd)] at e
     have hy : yielded l.toArray (frE l (uE kd V R G) a0 S).tmps k = yB (uE kd V R G k) := by
       unfold yielded
       have : (l.toArray[k]?).bind (·.dst) = some d := by rw [List.getElem?_toArray]; exact hdd
       rw [this]
       simp only [Option.bind_some, e]
       unfold yB
       cases uE kd V R G k <;> rfl
     show (yielded l.toArray (frE l (uE kd V R G) a0 S).tmps k == some b) = _
     rw [hy, uE_known G (fun _ => 0) hkn]
     exact hgd k b hg R s w hI.holds hns
 rw [hwant]
 cases ht : tgOf kd i with
 | sk =>
   rw [if_neg (by simp)]
   have := hK s R G w (inv_grow hE hEt htg hI hil hn (by rw [ht]; rfl) hcl (Below.growE (Below.refl _ _)) (stage_snoc hI (by simp [ht])) (fun _ _ => rfl) hI.holds)
   rw [frE_snoc, hd] at this
   have hv : uE kd V R G i = undef := by unfold uE; rw [ht]; rfl
   rw [hv] at this
   exact this
 | q =>
   rw [if_pos (by simp)]
   unfold Oper.wp
   rw [ht] at hrule
   have h1 := hrule R s w hI.holds hns hI.same (fun m c hsc ha => hI.olds m (anc_lt ha) c hsc fun hs => hn (anc_in hI.cl _ m i hs ha))
   rw [← execOp_congr o hs (fun x hx => hev' x (hq (Or.inl ht) x hx))] at h1
   have hv : uE kd V R G i = (V R).getD i undef := by unfold uE; rw [ht]; rfl
   have hend : ∀ w', Below w.heap.size w w' → K ((frE l (uE kd V R G) a0 S).put o.dst ((V R).getD i undef)) w' := by
     intro w' hB
     have := hK s R G w' (inv_grow hE hEt htg hI hil hn (by rw [ht]; rfl) hcl (Below.growE hB) (stage_snoc hI (by simp [ht])) (fun _ _ => rfl) (hTB _ _ _ _ hI.holds hB))
     rw [frE_snoc, hd, hv] at this
     exact this
   generalize (execOp (frE l (uE kd V R G) a0 S).eval o).run P w = r at h1 ⊢
   cases r with
   | ok n w' =>
     cases n <;> simp only [qUpon, Oper.upon] at h1 ⊢
     · obtain ⟨rfl, rfl⟩ := h1
       exact hend _ (Below.refl _ _)
     · obtain ⟨rfl, h2⟩ := h1
       refine h2.mono ?_
       rintro e w'' ⟨rfl, hB⟩
       exact hend w'' hB
   | halt x w' => simp only [qUpon] at h1
 | ev m =>
   rw [if_pos (by simp)]
   unfold Oper.wp
   rw [ht] at hrule
   have hms : s = m := by
     have h1 := nd_ev hnd hil ht
     have h2 : ¬ m < s := fun h => hn ((hI.stage i hil m ht).2 h)
     omega
   subst hms
   have h1 := hrule R w hI.holds hI.same
   rw [← execOp_congr o hs (fun x hx => hev' x (hq (Or.inr ⟨s, ht⟩) x hx))] at h1
   have hend : ∀ (r : Value) (w'' : World), T (s + 1) (updR R s r) w'' → GrowE E w w'' → K ((frE l (uE kd V R G) a0 S).put o.dst r) w'' := by
     intro r w'' hT hB
     have hstg : ∀ j, j < l.length → ∀ m', tgOf kd j = .ev m' → (j ∈ S ++ [i] ↔ m' < s + 1) := by
       intro j hj m' hm'
       constructor
       · intro h
         rcases List.mem_append.1 h with h | h
         · have := (hI.stage j hj m' hm').1 h; omega
         · simp at h; subst h
           rw [ht] at hm'
           obtain rfl : s = m' := by simpa using hm'
           omega
       · intro h
         by_cases e : m' = s
         · have := (hev s ht j hj m' hm').1 e
           simp [this]
         · exact List.mem_append.2 (Or.inl ((hI.stage j hj m' hm').2 (by omega)))
     have := hK (s + 1) (updR R s r) G w'' (inv_grow hE hEt htg hI hil hn (by rw [ht]; rfl) hcl hB hstg (fun k hk => hFu _ _ k (fun m hm => by have := nd_in hnd hI hk; unfold updR; rw [if_neg (by omega)])) hT)
     have hc : frE l (uE kd V (updR R s r) G) a0 S = frE l (uE kd V R G) a0 S := by
       refine frE_congr _ _ S a0 (fun k hk => ?_)
       have hkl := hI.inn k hk
       have hkn := nd_in hnd hI hk
       have hR : ∀ m, m < s → updR R s r m = R m := fun m hm => by unfold updR; rw [if_neg (by omega)]
       have hs' := (hV (updR R s r) R).get k (fun m hm => hR m (by rw [Nat.zero_add] at hm; omega))
       unfold uE
       rw [hs']
       cases htk : tgOf kd k with
       | ev m' => exact hR m' ((hI.stage k hkl m' htk).1 hk)
       | _ => rfl
     have hv : uE kd V (updR R s r) G i = r := by unfold uE; rw [ht]; simp [slE, updR]
     rw [frE_snoc, hd, hv, hc] at this
     exact this
   generalize (execOp (frE l (uE kd V R G) a0 S).eval o).run P w = r at h1 ⊢
   cases r with
   | ok n w' =>
     cases n <;> simp only [eUpon, Oper.upon] at h1 ⊢
     · exact hend _ _ h1.1 h1.2
     · obtain ⟨rfl, h2⟩ := h1
       refine h2.mono ?_
       rintro e w'' ⟨r, rfl, hT, hB⟩
       exact hend r w'' hT hB
   | halt x w' => simp only [eUpon] at h1
 | al =>
   rw [if_pos (by simp)]
   unfold Oper.wp
   rw [ht] at hrule
   rw [hrule]
   simp only [Oper.upon]
   have := hK s R _ _ (inv_alE hE hTB htg hI hil hn ht hcl)
   have hc : frE l (uE kd V R (fun k => if k = i then w.heap.size else G k)) a0 S = frE l (uE kd V R G) a0 S := by
     refine frE_congr _ _ S a0 (fun k hk => ?_)
     have e : k ≠ i := (fun e => hn (by rw [← e]; exact hk))
     unfold uE
     simp only [if_neg e]
   have hv : uE kd V R (fun k => if k = i then w.heap.size else G k) i = ptrTo w.heap.size := by unfold uE; rw [ht]; simp [slE]
   rw [frE_snoc, hd, hv, hc] at this
   exact this
 | st j =>
   rw [if_pos (by simp)]
   unfold Oper.wp
   obtain ⟨T', t, x, hop, hod, hdj, hdepj, hal, hcx, huniq⟩ := hst j ht
   simp only [ht, hop] at hrule
   have hjS := hdep j hdepj
   have hp : (frE l (uE kd V R G) a0 S).eval (.tmp t) = ptrTo (G j) := by
     have e1 := frE_some (uE kd V R G) t j hdj S a0 hI.nd hjS (fun k _ hk => one_writerE hck k j t hk hdj)
     rw [if_pos (dst_in hdst hdj)] at e1
     simp only [Act.eval, Array.getD_eq_getD_getElem?]
     rw [e1]
     unfold uE; rw [hal]; rfl
   have hz := hI.zeros j hjS hal (fun s' hs' e => hn (huniq s' (hI.inn s' hs') e ▸ hs'))
   obtain ⟨⟨w1, hr, hF⟩, hT1⟩ := hrule R s (frE l (uE kd V R G) a0 S).eval w (G j) hI.holds hns hp (hev' x hcx) (hI.made j hjS hal).1 hz
   rw [hr]
   simp only [Oper.upon]
   have := hK s R G w1 (inv_stE hE htg hck hI ho hn ht hjS hcl hF (hT1 w1 hF))
   have hv : uE kd V R G i = undef := by unfold uE; rw [ht]; rfl
   rw [frE_snoc, hd, hv] at this
   exact this
 | so c =>
   rw [if_pos (by simp)]
   unfold Oper.wp
   obtain ⟨T', p, x, hop, hod, hcp, hcx, _⟩ := hso c ht
   simp only [ht, hop] at hrule
   obtain ⟨⟨w1, hr, hF⟩, hT1⟩ := hrule R s (frE l (uE kd V R G) a0 S).eval w hI.holds hns (hev' p hcp) (hev' x hcx) (hI.olds i hil c ht hn)
   rw [hr]
   simp only [Oper.upon]
   have := hK s R G w1 (inv_soE htg htd hck hI ho hn ht hcl hF (hT1 w1 hF))
   have hv : uE kd V R G i = undef := by unfold uE; rw [ht]; rfl
   rw [frE_snoc, hd, hv] at this
   exact this
theorem inv_all (hI : EInv T E l kd zero full tgt W S s R G w) (hall : ∀ m, m < l.length → m ∈ S) : S.Perm (List.range l.length) ∧ EInv T E l kd zero full tgt W (List.range l.length) s R G w := by
 have hperm : S.Perm (List.range l.length) := (List.perm_ext_iff_of_nodup hI.nd List.nodup_range).2 (fun k => ⟨fun h => List.mem_range.2 (hI.inn k h), fun h => hall k (List.mem_range.1 h)⟩)
 refine ⟨hperm, List.nodup_range, fun i hi => List.mem_range.1 hi, hI.same, fun i hi => hI.made i (hperm.mem_iff.2 hi), fun i hi j hj => hI.apart i (hperm.mem_iff.2 hi) j (hperm.mem_iff.2 hj), fun i hi ht hs => hI.zeros i (hperm.mem_iff.2 hi) ht (fun s hs' => hs s (hperm.mem_iff.1 hs')), fun s hs i hi => ?_, fun s hs c hc hn => hI.olds s hs c hc (fun h => hn (hperm.mem_iff.1 h)), fun s hs => hI.olds' s (hperm.mem_iff.2 hs), fun s hs o ho k hk => hperm.mem_iff.1 (hI.cl s (hperm.mem_iff.2 hs) o ho k hk), fun i hi m hm => by rw [← hI.stage i hi m hm]; exact hperm.mem_iff.symm, hI.holds⟩
 obtain ⟨a, b, c⟩ := hI.fulls s (hperm.mem_iff.2 hs) i hi
 exact ⟨hperm.mem_iff.1 a, b, c⟩
theorem any_of_E (hck : chkE l kd = true) (hnd : ndB l kd nd = true) (hdst : dstB l a0.tmps.size = true) (hE : ∀ k, E k → k < W.heap.size) (hEt : ∀ c, Tg.so c ∈ kd → ¬ E (tgt c)) (htg : ∀ c, Tg.so c ∈ kd → tgt c < W.heap.size) (htd : ∀ c c', Tg.so c ∈ kd → Tg.so c' ∈ kd → tgt c = tgt c' → c = c') (hV : ∀ R R', Stab nd R R' 0 (V R) (V R')) (hFu : ∀ R R' i, (∀ m, m < nd.getD i 0 → R m = R' m) → full R i = full R' i)
   (hTB : ∀ s R w w', T s R w → Below w.heap.size w w' → T s R w')
   (hops : AllOps (RuleE P T E l kd nd V zero full tgt W (fun R => frE l (uE kd V R (fun _ => 0)) a0 (List.range l.length))) 0 l)
   (hend : ∀ s R G w, EInv T E l kd zero full tgt W (List.range l.length) s R G w → Q .normal (frE l (uE kd V R G) a0 (List.range l.length)) w) :
   ∀ (fuel : Nat) (S : List Nat) (s : Nat) (R : Nat → Value) (G : Nat → Nat) (w : World) (listed : Array Bool), listed.size = l.length → (∀ j, j < l.length → (listed.getD j true = decide (j ∈ S)) ∧ listed.getD j false = decide (j ∈ S)) → EInv T E l kd zero full tgt W S s R G w → S.length + fuel = l.length → wpAny P .any l.toArray Q fuel listed (frE l (uE kd V R G) a0 S) w := by
 have h1 := one_writerE hck
 intro fuel
 induction fuel with
 | zero =>
   intro S s R G w listed hsz hL hI hlen
   have hall : ∀ m, m < l.length → m ∈ S := by
     intro m hm
     refine Classical.byContradiction fun hn => ?_
     have h2 := nodup_sub (m :: S) (List.range l.length) (List.nodup_cons.2 ⟨hn, hI.nd⟩) (fun k hk => by
       rcases List.mem_cons.1 hk with h | h
       · subst h; exact List.mem_range.2 hm
       · exact List.mem_range.2 (hI.inn k h))
     simp at h2
     omega
   obtain ⟨hperm, hI'⟩ := inv_all hI hall
   refine ⟨?_, ?_⟩
   · cases hr : Region.ready .any l.toArray listed with
     | nil => rfl
     | cons i r =>
       obtain ⟨o, ho, hli, _⟩ := ready_spec (show i ∈ Region.ready .any l.toArray listed by rw [hr]; simp)
       have hi := (List.getElem?_eq_some_iff.1 ho).1
       rw [(hL i hi).1] at hli
       simp [hall i hi] at hli
   · rw [frE_perm _ a0 hperm h1]
     exact hend s R G w hI'
 | succ fuel ih =>
   intro S s R G w listed hsz hL hI hlen
   refine ⟨?_, ?_⟩
   · intro hr
     have : ∃ m, m < l.length ∧ m ∉ S := by
       apply Classical.byContradiction
       intro hno
       have := nodup_sub (List.range l.length) S List.nodup_range (fun m hm => Classical.byContradiction fun hn => hno ⟨m, List.mem_range.1 hm, hn⟩)
       simp at this
       omega
     obtain ⟨m, hm, hmS⟩ := this
     exact absurd hr (readyE_some hck hL hm hmS)
   · intro i hi
     obtain ⟨o, ho, hli, hdep⟩ := ready_spec hi
     have hil := (List.getElem?_eq_some_iff.1 ho).1
     have hn : i ∉ S := by
       intro h
       rw [(hL i hil).1] at hli
       simp [h] at hli
     have hdep' : ∀ k, dep o k = true → k ∈ S := by
       intro k hk
       have h2 := hdep k hk
       by_cases hkl : k < l.length
       · rw [(hL k hkl).2] at h2
         simpa using h2
       · rw [Array.getD_eq_getD_getElem?, Array.getElem?_eq_none (by omega)] at h2
         simp at h2
     have hstep := stepE (Q := Q) hck hnd hdst hE hEt htg htd hV hFu hTB hops hI ho hn hdep' (K := wpAny P .any l.toArray Q fuel (listed.setIfInBounds i true)) (by
       intro s' R' G' w' hI'
       refine ih (S ++ [i]) s' R' G' w' _ (by simpa using hsz) ?_ hI' (by simp; omega)
       intro j hj
       have hjs : j < listed.size := by omega
       by_cases e : j = i
       · subst e
         simp [Array.getD_eq_getD_getElem?, hjs]
       · have e' : i ≠ j := fun h => e h.symm
         have := hL j hj
         simp only [Array.getD_eq_getD_getElem?] at this ⊢
         rw [Array.getElem?_setIfInBounds_ne e']
         simpa [e] using this)
     show wpOp P l.toArray Q i _ _ _
     unfold wpOp
     rw [List.getElem?_toArray, ho]
     simp only
     by_cases hw : Region.wanted o (yielded l.toArray (frE l (uE kd V R G) a0 S).tmps) = true
     · rw [if_pos hw] at hstep
       rw [if_pos hw]
       exact Or.inl hstep
     · rw [if_neg hw] at hstep
       rw [if_neg hw]
       exact hstep
theorem list_of_E (hck : chkE l kd = true) (hnd : ndB l kd nd = true) (hdst : dstB l a0.tmps.size = true) (hE : ∀ k, E k → k < W.heap.size) (hEt : ∀ c, Tg.so c ∈ kd → ¬ E (tgt c)) (htg : ∀ c, Tg.so c ∈ kd → tgt c < W.heap.size) (htd : ∀ c c', Tg.so c ∈ kd → Tg.so c' ∈ kd → tgt c = tgt c' → c = c') (hV : ∀ R R', Stab nd R R' 0 (V R) (V R')) (hFu : ∀ R R' i, (∀ m, m < nd.getD i 0 → R m = R' m) → full R i = full R' i)
   (hTB : ∀ s R w w', T s R w → Below w.heap.size w w' → T s R w')
   (hops : AllOps (RuleE P T E l kd nd V zero full tgt W (fun R => frE l (uE kd V R (fun _ => 0)) a0 (List.range l.length))) 0 l)
   (hend : ∀ s R G w, EInv T E l kd zero full tgt W (List.range l.length) s R G w → Q .normal (frE l (uE kd V R G) a0 (List.range l.length)) w) :
   ∀ (l' : List Oper) (k : Nat) (s : Nat) (R : Nat → Value) (G : Nat → Nat) (w : World), k + l'.length = l.length → (∀ i, l'[i]? = l[k + i]?) → EInv T E l kd zero full tgt W (List.range k) s R G w → wpList P l.toArray Q l' (frE l (uE kd V R G) a0 (List.range k)) w
 | [], k, s, R, G, w, hk, _, hI => by
   simp at hk
   subst hk
   exact hend s R G w hI
 | o :: l', k, s, R, G, w, hk, hl, hI => by
   have ho : l[k]? = some o := by have := hl 0; simpa using this.symm
   have hkl := (List.getElem?_eq_some_iff.1 ho).1
   refine wpList_step fun K hK => ?_
   refine stepE (Q := Q) hck hnd hdst hE hEt htg htd hV hFu hTB hops hI ho (by simp) (fun m hm => ?_) (fun s' R' G' w' hI' => ?_)
   · unfold dep at hm
     rw [Array.any_eq_true'] at hm
     obtain ⟨e, he, hb⟩ := hm
     simp only [Bool.and_eq_true, beq_iff_eq] at hb
     have := (specE hck ho).2.2.2.1 e he hb.1
     rw [hb.2] at this
     exact List.mem_range.2 this
   · refine hK _ _ ?_
     rw [← List.range_succ] at hI' ⊢
     exact list_of_E hck hnd hdst hE hEt htg htd hV hFu hTB hops hend l' (k + 1) s' R' G' w' (by simp at hk; omega) (fun i => by have := hl (i + 1); simpa [Nat.add_assoc, Nat.add_comm 1 i] using this) hI'
theorem inv_start {R : Nat → Value} (hT : T 0 R w) (hw : w.os = W.os ∧ w.tape = W.tape ∧ w.output = W.output ∧ w.heap = W.heap) : EInv T E l kd zero full tgt W [] 0 R (fun _ => 0) w := by
 obtain ⟨h1, h2, h3, h4⟩ := hw
 exact ⟨List.nodup_nil, by simp, ⟨h1, h2, h3, by rw [h4]; exact Nat.le_refl _, fun _ _ _ _ => by rw [h4]⟩, by simp, by simp, by simp, by simp, fun s hs c hc _ => by rw [h4], by simp, by simp, fun i _ m _ => by simp, hT⟩
def putE : List Oper → List Tg → List Value → (Nat → Value) → (Nat → Nat) → Nat → Act → Act
 | o :: l, t :: kd, v :: V, R, G, i, a => putE l kd V R G (i + 1) (a.put o.dst (slE t v (G i) R))
 | _, _, _, _, _, _, a => a
theorem putE_eq (l : List Oper) (kd : List Tg) (V : (Nat → Value) → List Value) (R : Nat → Value) (G : Nat → Nat) : ∀ (l' : List Oper) (kd' : List Tg) (V' : List Value) (k : Nat) (a : Act), (∀ i, l'[i]? = l[k + i]?) → (∀ i, kd'[i]? = kd[k + i]?) → (∀ i, V'[i]? = (V R)[k + i]?) → kd'.length = l'.length → V'.length = l'.length → putE l' kd' V' R G k a = (List.range' k l'.length).foldl (fun a i => a.put (dstOf l i) (uE kd V R G i)) a
 | [], [], [], k, a, _, _, _, _, _ => rfl
 | o :: l', t :: kd', v :: V', k, a, h1, h2, h3, h4, h5 => by
   have e1 : l[k]? = some o := by have := h1 0; simpa using this.symm
   have e2 : kd[k]? = some t := by have := h2 0; simpa using this.symm
   have e3 : (V R)[k]? = some v := by have := h3 0; simpa using this.symm
   have ed : dstOf l k = o.dst := by unfold dstOf; rw [e1]; rfl
   have et : tgOf kd k = t := by unfold tgOf; rw [List.getD_eq_getElem?_getD, e2]; rfl
   have eV : (V R).getD k undef = v := by rw [List.getD_eq_getElem?_getD, e3]; rfl
   have ev : uE kd V R G k = slE t v (G k) R := by
     unfold uE; rw [et, eV]
   rw [putE, List.length_cons, List.range'_succ, List.foldl_cons, ed, ev]
   exact putE_eq l kd V R G l' kd' V' (k + 1) _ (fun i => by have := h1 (i + 1); simpa [Nat.add_assoc, Nat.add_comm 1 i] using this) (fun i => by have := h2 (i + 1); simpa [Nat.add_assoc, Nat.add_comm 1 i] using this) (fun i => by have := h3 (i + 1); simpa [Nat.add_assoc, Nat.add_comm 1 i] using this) (by simpa using h4) (by simpa using h5)
 | [], _ :: _, _, _, _, _, _, _, h, _ => by simp at h
 | [], [], _ :: _, _, _, _, _, _, _, h => by simp at h
 | _ :: _, [], _, _, _, _, _, _, h, _ => by simp at h
 | _ :: _, _ :: _, [], _, _, _, _, _, _, h => by simp at h
theorem frE_putE (a0 : Act) (h4 : kd.length = l.length) (R : Nat → Value) (h5 : (V R).length = l.length) : frE l (uE kd V R G) a0 (List.range l.length) = putE l kd (V R) R G 0 a0 := by
 rw [putE_eq l kd V R G l kd (V R) 0 a0 (by simp) (by simp) (by simp) h4 h5]
 unfold frE
 rw [List.range_eq_range']
theorem wp_ev {id : Nat} (kd : List Tg) (nd : List Nat) (V : (Nat → Value) → List Value) (zero : Nat → Obj) (full : (Nat → Value) → Nat → Obj) (tgt : Nat → Nat) (T : Nat → (Nat → Value) → World → Prop) (E : Nat → Prop) (hm : P.follows .mixedOrders = true) (hck : chkE l kd = true) (hnd : ndB l kd nd = true) (hdst : dstB l a0.tmps.size = true) (h4 : kd.length = l.length) (h5 : ∀ R, (V R).length = l.length)
   (hE : ∀ k, E k → k < W.heap.size) (hEt : ∀ c, Tg.so c ∈ kd → ¬ E (tgt c)) (htg : ∀ c, Tg.so c ∈ kd → tgt c < W.heap.size) (htd : ∀ c c', Tg.so c ∈ kd → Tg.so c' ∈ kd → tgt c = tgt c' → c = c') (hV : ∀ R R', Stab nd R R' 0 (V R) (V R')) (hFu : ∀ R R' i, (∀ m, m < nd.getD i 0 → R m = R' m) → full R i = full R' i)
   (hTB : ∀ s R w w', T s R w → Below w.heap.size w w' → T s R w') (hT0 : T 0 (fun _ => undef) W.drew)
   (hops : AllOps (RuleE P T E l kd nd V zero full tgt W (fun R => putE l kd (V R) R (fun _ => 0) 0 a0)) 0 l)
   (hend : ∀ s R G w, EInv T E l kd zero full tgt W (List.range l.length) s R G w → Q .normal (putE l kd (V R) R G 0 a0) w) :
   (Code.region id l.toArray true).wp P Q a0 W := by
 refine wp_region_any hm ?_
 have e : (fun R => frE l (uE kd V R (fun _ => 0)) a0 (List.range l.length)) = (fun R => putE l kd (V R) R (fun _ => 0) 0 a0) := funext fun R => frE_putE a0 h4 R (h5 R)
 rw [← e] at hops
 have h := any_of_E (Q := Q) hck hnd hdst hE hEt htg htd hV hFu hTB hops (fun s R G w hI => by rw [frE_putE a0 h4 R (h5 R)]; exact hend s R G w hI) l.length [] 0 (fun _ => undef) (fun _ => 0) { W with drawn := W.drawn + 1 } (Array.replicate l.length false) (by simp) (fun j hj => by simp [Array.getD_eq_getD_getElem?, hj]) (inv_start hT0 ⟨rfl, rfl, rfl, rfl⟩) (by simp)
 simpa [frE] using h
theorem wp_evs {id : Nat} (kd : List Tg) (nd : List Nat) (V : (Nat → Value) → List Value) (zero : Nat → Obj) (full : (Nat → Value) → Nat → Obj) (tgt : Nat → Nat) (T : Nat → (Nat → Value) → World → Prop) (E : Nat → Prop) (hck : chkE l kd = true) (hnd : ndB l kd nd = true) (hdst : dstB l a0.tmps.size = true) (h4 : kd.length = l.length) (h5 : ∀ R, (V R).length = l.length)
   (hE : ∀ k, E k → k < W.heap.size) (hEt : ∀ c, Tg.so c ∈ kd → ¬ E (tgt c)) (htg : ∀ c, Tg.so c ∈ kd → tgt c < W.heap.size) (htd : ∀ c c', Tg.so c ∈ kd → Tg.so c' ∈ kd → tgt c = tgt c' → c = c') (hV : ∀ R R', Stab nd R R' 0 (V R) (V R')) (hFu : ∀ R R' i, (∀ m, m < nd.getD i 0 → R m = R' m) → full R i = full R' i)
   (hTB : ∀ s R w w', T s R w → Below w.heap.size w w' → T s R w') (hT0 : T 0 (fun _ => undef) W)
   (hops : AllOps (RuleE P T E l kd nd V zero full tgt W (fun R => putE l kd (V R) R (fun _ => 0) 0 a0)) 0 l)
   (hend : ∀ s R G w, EInv T E l kd zero full tgt W (List.range l.length) s R G w → Q .normal (putE l kd (V R) R G 0 a0) w) :
   (Code.region id l.toArray false).wp P Q a0 W := by
 have e : (fun R => frE l (uE kd V R (fun _ => 0)) a0 (List.range l.length)) = (fun R => putE l kd (V R) R (fun _ => 0) 0 a0) := funext fun R => frE_putE a0 h4 R (h5 R)
 rw [← e] at hops
 refine wp_region_lit ?_
 have h := list_of_E (Q := Q) hck hnd hdst hE hEt htg htd hV hFu hTB hops (fun s R G w hI => by rw [frE_putE a0 h4 R (h5 R)]; exact hend s R G w hI) l 0 0 (fun _ => undef) (fun _ => 0) W (by simp) (by simp) (inv_start hT0 ⟨rfl, rfl, rfl, rfl⟩)
 simpa [frE] using h
end
end
section
open Go Go.RowKit
section
variable {P : Program} {l : List Oper} {kd : List Tg} {V : (Nat → Value) → List Value} {T : Nat → (Nat → Value) → World → Prop} {E : Nat → Prop} {zero : Nat → Obj} {full : (Nat → Value) → Nat → Obj} {tgt : Nat → Nat} {W : World} {A : (Nat → Value) → Act} {nd : List Nat} {i : Nat} {o : Oper}
abbrev GdE (T : Nat → (Nat → Value) → World → Prop) (kd : List Tg) (nd : List Nat) (V : (Nat → Value) → List Value) (i : Nat) (o : Oper) : Prop := ∀ k b, o.guard = some (k, b) → ∀ R s w, T s R w → nd.getD i 0 ≤ s → (yB (uE kd V R (fun _ => 0) k) == some b) = (tgOf kd i != .sk)
theorem gd_none (h : o.guard = none) : GdE T kd nd V i o := fun k b e => by rw [h] at e; cases e
theorem er_q (v : (Nat → Value) → Value) (h : tgOf kd i = .q) (hv : ∀ R, (V R).getD i undef = v R) (hg : GdE T kd nd V i o) (hq : ∀ R s w, T s R w → nd.getD i 0 ≤ s → SameE kd tgt E W w → (∀ m c, tgOf kd m = .so c → anc l l.length m i = true → w.heap[tgt c]? = W.heap[tgt c]?) → qUpon P w (v R) ((execOp (A R).eval o).run P w)) : RuleE P T E l kd nd V zero full tgt W A i o := by
 refine ⟨hg, ?_⟩
 rw [h]
 intro R s w a b c d
 rw [hv]
 exact hq R s w a b c d
theorem er_al (z : Obj) (h : tgOf kd i = .al) (hz : zero i = z) (hg : GdE T kd nd V i o) (hr : ∀ (ρ : Operand → Value) (w : World), (execOp ρ o).run P w = .ok (.value (ptrTo w.heap.size)) (w.alloc z)) : RuleE P T E l kd nd V zero full tgt W A i o := by
 refine ⟨hg, ?_⟩
 rw [h]
 intro ρ w
 rw [hz]
 exact hr ρ w
theorem er_st {j : Nat} {Ty : TypeId} {p x : Operand} (f : (Nat → Value) → Obj) (z : Obj) (v : (Nat → Value) → Value) (h : tgOf kd i = .st j) (hop : o.op = .store Ty p x) (hf : ∀ R, full R i = f R) (hz : zero j = z) (hg : GdE T kd nd V i o) (hv : ∀ R, (A R).eval x = v R)
   (hs : ∀ R s (ρ : Operand → Value) (w : World) (g : Nat), T s R w → nd.getD i 0 ≤ s → ρ p = ptrTo g → ρ x = v R → W.heap.size ≤ g → w.heap[g]? = some z → Stores P ρ o w g (f R) ∧ ∀ w1, Filled w w1 g (f R) → T s R w1) : RuleE P T E l kd nd V zero full tgt W A i o := by
 refine ⟨hg, ?_⟩
 rw [h]
 simp only [hop, hf, hz]
 intro R s ρ w g a b c d
 rw [hv] at d
 exact hs R s ρ w g a b c d
theorem er_so {c : Nat} {Ty : TypeId} {p x : Operand} (g : Nat) (f : (Nat → Value) → Obj) (u v : (Nat → Value) → Value) (h : tgOf kd i = .so c) (hop : o.op = .store Ty p x) (hf : ∀ R, full R i = f R) (htg : tgt c = g) (hg : GdE T kd nd V i o) (hp : ∀ R, (A R).eval p = u R) (hv : ∀ R, (A R).eval x = v R)
   (hs : ∀ R s (ρ : Operand → Value) (w : World), T s R w → nd.getD i 0 ≤ s → ρ p = u R → ρ x = v R → w.heap[g]? = W.heap[g]? → Stores P ρ o w g (f R) ∧ ∀ w1, Filled w w1 g (f R) → T s R w1) : RuleE P T E l kd nd V zero full tgt W A i o := by
 refine ⟨hg, ?_⟩
 rw [h]
 simp only [hop, hf, htg]
 intro R s ρ w a b d e
 rw [hv] at e
 rw [hp] at d
 exact hs R s ρ w a b d e
theorem er_ev {m : Nat} (h : tgOf kd i = .ev m) (hg : GdE T kd nd V i o) (hq : ∀ R w, T m R w → SameE kd tgt E W w → eUpon P T E m R w ((execOp (A R).eval o).run P w)) : RuleE P T E l kd nd V zero full tgt W A i o := by
 refine ⟨hg, ?_⟩
 rw [h]
 exact hq
theorem q_load {a : Act} {w : World} {ty : TypeId} {x : Operand} {u v : Value} (ho : o.op = .load ty x) (hx : a.eval x = u) (hr : (Instr.loadAt ty u).run P w = .ok v w) : qUpon P w v ((execOp a.eval o).run P w) := by
 unfold execOp
 simp only [ho, hx, Sem.run_bind, hr, Result.andThen_ok, Sem.run_pure]
 exact ⟨rfl, rfl⟩
theorem Blk.sameE {w : World} {g : Nat} {t : TypeId} {X : Array Value} (h : Blk W g t X) (k : SameE kd tgt E W w) (he : ¬ E g) (hc : ∀ c, Tg.so c ∈ kd → tgt c ≠ g) : Blk w g t X :=
 (k.2.2.2.2 g h.lt he hc).trans h
end
theorem TapeOk.keep {B b : Nat} {w w' : World} (h : TapeOk B w b) (hs : w.heap.size ≤ w'.heap.size) (hk : ∀ k, k = b ∨ k < B → k < w.heap.size → w'.heap[k]? = w.heap[k]?) : TapeOk B w' b := by
 obtain ⟨h1, h2, a, len, cap, at_, c0, c1, f1, h3, h4, hx⟩ := h
 have hc : ∀ k, k = b ∨ k < B → k < w.heap.size → ∀ o, w'.cell? ⟨k, o, none⟩ = w.cell? ⟨k, o, none⟩ := fun k h1 h2 o => by unfold World.cell?; rw [hk k h1 h2]
 have hf : w'.frozen? ⟨b, 1, none⟩ = w.frozen? ⟨b, 1, none⟩ := by unfold World.frozen?; rw [hk b (Or.inl rfl) h2]
 refine ⟨h1, by omega, a, len, cap, at_, (hc b (Or.inl rfl) h2 0).trans c0, (hc b (Or.inl rfl) h2 1).trans c1, hf.trans f1, h3, h4, ?_⟩
 rcases hx with hx | ⟨xb, xo, e, hb, hl, hcc⟩
 · exact Or.inl hx
 · refine Or.inr ⟨xb, xo, e, hb, hl, fun i hi => ?_⟩
   obtain ⟨v, h5, h6⟩ := hcc i hi
   exact ⟨v, h5, (hc xb (Or.inr hb) (by omega) _).trans h6⟩
def XE (W0 : World) (_ : Nat) (_ : Nat → Value) (w : World) : Prop := Ext W0 w
theorem ext_filled {W0 w w1 : World} {g : Nat} {f : Obj} (h : Ext W0 w) (hF : Filled w w1 g f) (hg : W0.heap.size ≤ g) : Ext W0 w1 :=
 ⟨hF.2.2.2.1.trans h.os, hF.2.2.2.2.1.trans h.tape, hF.2.2.2.2.2.trans h.output, by rw [hF.2.2.1]; exact h.size, fun k hk => (hF.2.1 k (by omega)).trans (h.block k hk)⟩
theorem xe_below {W0 : World} : ∀ s R w w', XE W0 s R w → Below w.heap.size w w' → XE W0 s R w' := fun _ _ _ _ h k => Ext.trans h k
theorem store_rowN {ρ : Operand → Value} {o : Oper} {T : TypeId} {p x : Operand} {w : World} {g n : Nat} {cs ds : Array Value} (hop : o.op = .store T p x) (hp : ρ p = ptrTo g) (hx : ρ x = .agg ds) (hz : w.heap[g]? = some (.cells cs T (0, 0))) (hi : (Try.prog.info? T).map (·.size) = some n) (hc : cs.size = n) (hs : ds.size = n) (h1 : ds.all (·.oneCell') = true) :
   Stores Try.prog ρ o w g (.cells ds T (0, 0)) := store_row hop hp hx hz (by rw [hc]; exact hi) (by rw [hs, hc]) h1
def XA (l : List (Value → Prop)) (s : Nat) (R : Nat → Value) : Prop := ∀ m p, l[m]? = some p → m < s → p (R m)
theorem XA.zero {l : List (Value → Prop)} {R : Nat → Value} : XA l 0 R := fun _ _ _ h => absurd h (by omega)
theorem XA.get {l : List (Value → Prop)} {s : Nat} {R : Nat → Value} {p : Value → Prop} (h : XA l s R) (m : Nat) (hp : l[m]? = some p) (hs : m < s) : p (R m) := h m p hp hs
end
section
open Go Go.RowKit Go.Sort
def UE (g : Nat) (W0 : World) (_ : Nat) (_ : Nat → Value) (w : World) : Prop := Upd g W0 w
theorem ue_below {g : Nat} {W0 : World} : ∀ s R w w', UE g W0 s R w → Below w.heap.size w w' → UE g W0 s R w' := fun _ _ _ _ h k => Upd.more h k
theorem ue_self {b : Nat} {W0 w w1 : World} {f : Obj} (h : Upd b W0 w) (hF : Filled w w1 b f) : Upd b W0 w1 :=
 ⟨hF.2.2.2.1.trans h.1, hF.2.2.2.2.1.trans h.2.1, hF.2.2.2.2.2.trans h.2.2.1, by rw [hF.2.2.1]; exact h.2.2.2.1, fun k hk hb => (hF.2.1 k hb).trans (h.2.2.2.2 k hk hb)⟩
end
section
open Go Go.RowKit
theorem t_boolN (B b : Nat) (n : Int) (W w : World) (h1 : 2 ≤ n) (h2 : n ≤ 1000) (hT : TapeOk B w b) (hW : Upd b W w) :
   Calls Try.prog 44 #[.pointer (some ⟨b, 0, none⟩), .int .i64 n] w (BoolPost B b W) := by
 have hn0 : ¬ (n = 0) := by omega
 have hm : (1 : Int).tmod n = 1 := by
   rw [Int.tmod_eq_emod_of_nonneg (by omega)]; exact Int.emod_eq_of_lt (by omega) (by omega)
 have hm2 : (1 : Int) % n = 1 := Int.emod_eq_of_lt (by omega) (by omega)
 have hT' := hT.below (below_drewN' (b + 1) w 1)
 go_enter Try.func44, Try.ntmps44
 go_wp2_with fail
 go_region_with (go_at_call 12; refine (t_next' B b n W _ ⟨by omega, by omega⟩ (by first | exact hT | exact (hT.below (below_drewN' (b + 1) w 1))) (by first | exact hW | exact hW.drew)).mono ?_; rintro e w' ⟨u, rfl, hu, hT2, hB2⟩)
 all_goals go_wp2_with fail
 all_goals go_ret
 all_goals exact ⟨_, rfl, hT2, hB2⟩
def IsS (l : List (Int × Int)) : Prop := ∀ p ∈ l, I64 p.1 ∧ I64 p.2
theorem IsS.nil : IsS [] := by intro x hx; simp at hx
theorem IsS.app {l m : List (Int × Int)} (h : IsS l) (k : IsS m) : IsS (l ++ m) := by
 intro x hx; rcases List.mem_append.1 hx with a | a
 · exact h x a
 · exact k x a
theorem IsS.one {x y : Int} (h : I64 x) (k : I64 y) : IsS [(x, y)] := by intro p hp; simp at hp; subst hp; exact ⟨h, k⟩
theorem IsS.take {l : List (Int × Int)} (h : IsS l) (k : Nat) : IsS (l.take k) := fun x hx => h x (List.mem_of_mem_take hx)
theorem IsS.drop {l : List (Int × Int)} (h : IsS l) (k : Nat) : IsS (l.drop k) := fun x hx => h x (List.mem_of_mem_drop hx)
theorem IsS.get {l : List (Int × Int)} (h : IsS l) (k : Nat) : I64 (l.getD k (0, 0)).1 ∧ I64 (l.getD k (0, 0)).2 := by
 rw [List.getD_eq_getElem?_getD]
 cases hk : l[k]? with
 | none => exact ⟨⟨by simp, by simp⟩, ⟨by simp, by simp⟩⟩
 | some x => exact h x (List.mem_of_getElem? hk)
def s8s : List (Int × Int) → List Value
 | [] => []
 | p :: l => .int .i64 p.1 :: .int .i64 p.2 :: s8s l
theorem s8s_len : ∀ l : List (Int × Int), (s8s l).length = l.length * 2
 | [] => rfl
 | _ :: l => by simp only [s8s, List.length_cons, s8s_len l]; omega
theorem s8s_one : ∀ l : List (Int × Int), ∀ u ∈ s8s l, u.oneCell' = true
 | [], u, h => by simp [s8s] at h
 | p :: l, u, h => by
   simp only [s8s, List.mem_cons] at h
   rcases h with rfl | rfl | h
   · rfl
   · rfl
   · exact s8s_one l u h
theorem s8s_app : ∀ l m : List (Int × Int), s8s (l ++ m) = s8s l ++ s8s m
 | [], _ => rfl
 | p :: l, m => by simp only [List.cons_append, s8s, s8s_app l m]
theorem s8s_get : ∀ (l : List (Int × Int)) (j : Nat), j < l.length → (s8s l)[2 * j]? = some (.int .i64 (l.getD j (0, 0)).1) ∧ (s8s l)[2 * j + 1]? = some (.int .i64 (l.getD j (0, 0)).2)
 | [], j, h => by simp at h
 | p :: l, 0, _ => by simp [s8s]
 | p :: l, j + 1, h => by
   have := s8s_get l j (by simpa using h)
   rw [show 2 * (j + 1) = 2 * j + 1 + 1 by omega]
   simpa [s8s] using this
def SampsAt (w : World) (A : Option Addr) (l : List (Int × Int)) : Prop :=
 IsS l ∧ l.length ≤ 9223372036854775807 ∧ (0 < l.length → ∃ b off, A = some ⟨b, off, none⟩ ∧ b < w.heap.size ∧ ∀ j, j < l.length → w.cell? ⟨b, off + 2 * j, none⟩ = some (.int .i64 (l.getD j (0, 0)).1) ∧ w.cell? ⟨b, off + (2 * j + 1), none⟩ = some (.int .i64 (l.getD j (0, 0)).2))
theorem SampsAt.nil (w : World) (A : Option Addr) : SampsAt w A [] := ⟨IsS.nil, by simp, fun h => absurd h (by simp)⟩
theorem SampsAt.ext {w w' : World} {A : Option Addr} {l : List (Int × Int)} (h : SampsAt w A l) (e : Ext w w') : SampsAt w' A l :=
 ⟨h.1, h.2.1, fun hp => by
   obtain ⟨b, off, hA, hb, hc⟩ := h.2.2 hp
   exact ⟨b, off, hA, Nat.lt_of_lt_of_le hb e.size, fun j hj => ⟨(e.cell (p := ⟨b, off + 2 * j, none⟩) hb).trans (hc j hj).1, (e.cell (p := ⟨b, off + (2 * j + 1), none⟩) hb).trans (hc j hj).2⟩⟩⟩
theorem SampsAt.keep {w w' : World} {A : Option Addr} {l : List (Int × Int)} (h : SampsAt w A l) (hs : w.heap.size ≤ w'.heap.size) (e : ∀ b off, A = some ⟨b, off, none⟩ → b < w.heap.size → w'.heap[b]? = w.heap[b]?) : SampsAt w' A l :=
 ⟨h.1, h.2.1, fun hp => by
   obtain ⟨b, off, hA, hb, hc⟩ := h.2.2 hp
   exact ⟨b, off, hA, Nat.lt_of_lt_of_le hb hs, fun j hj => ⟨(World.cell?_of_block (a := ⟨b, off + 2 * j, none⟩) (e b off hA hb)).trans (hc j hj).1, (World.cell?_of_block (a := ⟨b, off + (2 * j + 1), none⟩) (e b off hA hb)).trans (hc j hj).2⟩⟩⟩
theorem info_sm : (Try.prog.info? 66).map (fun i => (i.zero, i.size, i.bytes)) = some (some (.agg #[.int .i64 0, .int .i64 0]), 2, 16) := by kernel_rfl
def OwnS (B : Nat) (w : World) (v : Value) (l : List (Int × Int)) : Prop := w.ownsRow B 66 2 v l.length (s8s l) ∧ IsS l
theorem OwnS.at_ {B : Nat} {w : World} {v : Value} {l : List (Int × Int)} (h : OwnS B w v l) : ∃ A cap, v = .slice A l.length cap ∧ l.length ≤ cap ∧ cap ≤ 9223372036854775807 ∧ SampsAt w A l := by
 rcases h.1.2 with ⟨rfl, h0⟩ | ⟨g, cap, cur, rfl, hg, hh, hnc, hcp, hcs, htake⟩
 · obtain rfl : l = [] := List.length_eq_zero_iff.1 h0
   exact ⟨none, 0, rfl, Nat.le_refl _, by omega, SampsAt.nil _ _⟩
 · unfold maxLen at hcp
   have e : ∀ j, (⟨g, 0, none⟩ : Addr).add j = ⟨g, 0 + j, none⟩ := fun j => by unfold Addr.add; split <;> simp_all
   refine ⟨_, cap, rfl, hnc, hcp, h.2, by omega, fun _ => ⟨g, 0, rfl, (Array.getElem?_eq_some_iff.1 hh).1, fun j hj => ?_⟩⟩
   have hs := s8s_get l j hj
   have h1 := h.1.cells (g := g) rfl _ _ hs.1
   have h2 := h.1.cells (g := g) rfl _ _ hs.2
   rw [e] at h1 h2
   exact ⟨h1, h2⟩
theorem OwnS.kept {B : Nat} {w w' : World} {v : Value} {l : List (Int × Int)} (h : OwnS B w v l) {row : Option Nat} (hg : w.grownBy w' row) (hne : v.ownBlock = none ∨ v.ownBlock ≠ row) : OwnS B w' v l := ⟨h.1.kept hg hne, h.2⟩
theorem OwnS.alloc {B : Nat} {w : World} {v : Value} {l : List (Int × Int)} (h : OwnS B w v l) (o : Obj) : OwnS B (w.alloc o) v l := ⟨h.1.alloc o, h.2⟩
theorem OwnS.drew {B : Nat} {w : World} {v : Value} {l : List (Int × Int)} (h : OwnS B w v l) : OwnS B w.drew v l := h
theorem OwnS.nil_ (B : Nat) (w : World) : OwnS B w (.slice none 0 0) [] := ⟨World.ownsRow_nil _ _ _ _, IsS.nil⟩
theorem OwnS.ext {B : Nat} {w w' : World} {v : Value} {l : List (Int × Int)} (h : OwnS B w v l) (e : Ext w w') : OwnS B w' v l := by
 refine ⟨?_, h.2⟩
 obtain ⟨h1, h2 | ⟨g, cap, cur, hv, hg, hh, r⟩⟩ := h.1
 · exact ⟨h1, Or.inl h2⟩
 · exact ⟨h1, Or.inr ⟨g, cap, cur, hv, hg, by rw [e.block g (Array.getElem?_eq_some_iff.1 hh).1]; exact hh, r⟩⟩
theorem OwnS.less {B B' : Nat} {w : World} {v : Value} {l : List (Int × Int)} (h : OwnS B w v l) (hB : B' ≤ B) : OwnS B' w v l := by
 refine ⟨?_, h.2⟩
 obtain ⟨h1, h2 | ⟨g, cap, cur, hv, hg, r⟩⟩ := h.1
 · exact ⟨h1, Or.inl h2⟩
 · exact ⟨h1, Or.inr ⟨g, cap, cur, hv, by omega, r⟩⟩
theorem OwnS.upd {B b : Nat} {w w' : World} {v : Value} {l : List (Int × Int)} (h : OwnS B w v l) (u : Upd b w w') (hb : b < B) : OwnS B w' v l := by
 refine ⟨?_, h.2⟩
 obtain ⟨h1, h2 | ⟨g, cap, cur, hv, hg, hh, r⟩⟩ := h.1
 · exact ⟨h1, Or.inl h2⟩
 · exact ⟨h1, Or.inr ⟨g, cap, cur, hv, hg, by rw [u.2.2.2.2 g (Array.getElem?_eq_some_iff.1 hh).1 (by omega)]; exact hh, r⟩⟩
theorem SampsAt.upd {b : Nat} {w w' : World} {A : Option Addr} {l : List (Int × Int)} (h : SampsAt w A l) (u : Upd b w w') (hb : ∀ g off, A = some ⟨g, off, none⟩ → g ≠ b) : SampsAt w' A l :=
 h.keep u.2.2.2.1 fun g off hA hg => u.2.2.2.2 g hg (hb g off hA)
theorem own_samps {w : World} {A : Option Addr} {c cap B : Nat} {l : List (Int × Int)} (h : OwnS B w (.slice A c cap) l) : SampsAt w A l := by
 obtain ⟨A', cap', he, _, _, hw⟩ := h.at_
 cases he
 exact hw
theorem info_parts2 {i : Option TypeInfo} {z : Value} {a b : Nat} (h : i.map (fun i => (i.zero, i.size, i.bytes)) = some (some z, a, b)) : ∃ x, i = some x ∧ x.zero = some z ∧ x.size = a ∧ x.bytes = b := by
 cases i with
 | none => simp at h
 | some x =>
   simp only [Option.map_some, Option.some.injEq, Prod.mk.injEq] at h
   exact ⟨x, rfl, h.1, h.2.1, h.2.2⟩
theorem run_appendS (B : Nat) (w : World) (ty : TypeId) (v : Value) (l0 l : List (Int × Int)) (hown : OwnS B w v l0) (A : Option Addr) (m c : Nat) (hb : SampsAt w A l) (hm : l.length = m) (hlen : l0.length + l.length ≤ 8796093022208) (hbase : B ≤ w.heap.size) :
   ∃ v' w', (Builtin.append_ #[63, 63] ty #[v, .slice A m c]).run Try.prog w = .ok v' w' ∧ OwnS B w' v' (l0 ++ l) ∧ w.grownBy w' v.ownBlock ∧ (v'.ownBlock = v.ownBlock ∨ v'.ownBlock = some w.heap.size) := by
 subst hm
 obtain ⟨i0, hi0, hz0, hz1, hz2⟩ := info_parts2 info_sm
 have h63 : l0.length + l.length ≤ maxLen := by unfold maxLen; omega
 rcases A with _ | ad
 · have h0 : l = [] := by
     rcases Nat.eq_zero_or_pos l.length with h | h
     · exact List.length_eq_zero_iff.1 h
     · obtain ⟨b, off, h', _⟩ := hb.2.2 h
       cases h'
   subst h0
   refine ⟨v, w, ?_, by rw [List.append_nil]; exact hown, World.grownBy.refl w _, .inl rfl⟩
   rcases hown.1.2 with ⟨rfl, _⟩ | ⟨g, cap, cur, rfl, _, _, hnc, _⟩
   · simp [Builtin.append_, run_underlying Try.underlying63, sizeOf, typeInfo, hi0, Builtin.lenOf, Builtin.firstCells]
   · simp [Builtin.append_, run_underlying Try.underlying63, sizeOf, typeInfo, hi0, Builtin.lenOf, Builtin.firstCells, hnc, storeCells]
 · have hcells : ∀ j u, (s8s l)[j]? = some u → w.cell? (ad.add j) = some u := by
     intro j u hu
     have hj : j < l.length * 2 := by
       rcases Nat.lt_or_ge j (s8s l).length with h | h
       · rwa [s8s_len] at h
       · rw [List.getElem?_eq_none h] at hu; cases hu
     obtain ⟨b, off, h', _, hc⟩ := hb.2.2 (by omega)
     obtain rfl : ad = ⟨b, off, none⟩ := Option.some.inj h'
     have hs := s8s_get l (j / 2) (by omega)
     have hcj := hc (j / 2) (by omega)
     rw [add_at]
     rcases Nat.mod_two_eq_zero_or_one j with h | h
     · have e : 2 * (j / 2) = j := by omega
       rw [e] at hs hcj
       rw [hcj.1, ← hu, hs.1]
     · have e : 2 * (j / 2) + 1 = j := by omega
       rw [e] at hs hcj
       rw [hcj.2, ← hu, hs.2]
   obtain ⟨v', w', hrun, h2, h3, _, h5⟩ := run_append_own_at (P := Try.prog) w B 63 ty 66 i0 _ 2 16 Try.underlying63 hi0 hz0 hz1 hz2 rfl (by omega) v l0.length (s8s l0) hown.1 ad l.length c (s8s l) (s8s_len l) hcells (s8s_one l) h63 (by omega) hbase
   refine ⟨v', w', hrun, ⟨?_, hown.2.app hb.1⟩, h3, h5⟩
   rw [s8s_app, List.length_append]
   exact h2
theorem wl_appendS {ops : Array Oper} {rest : List Oper} {o : Oper} {a : Act} {Q : Exit → Act → World → Prop} {w : World} (hgd : o.guard = none) (s x : Operand)
   (ho : o.op = .call { callee := .builtin .append, args := #[s, x], argTypes := #[63, 63] })
   (B : Nat) (v : Value) (l0 l : List (Int × Int)) (hs : a.eval s = v) (hown : OwnS B w v l0) (A : Option Addr) (m c : Nat) (hx : a.eval x = .slice A m c) (hb : SampsAt w A l) (hm : l.length = m) (hlen : l0.length + l.length ≤ 8796093022208) (hbase : B ≤ w.heap.size)
   (h : ∀ v' w', OwnS B w' v' (l0 ++ l) → w.grownBy w' v.ownBlock → (v'.ownBlock = v.ownBlock ∨ v'.ownBlock = some w.heap.size) → wpList Try.prog ops Q rest (a.put o.dst v') w') : wpList Try.prog ops Q (o :: rest) a w :=
 wpList_plain hgd fun _ hK => by
   obtain ⟨v', w', hrun, h2, h3, h4⟩ := run_appendS B w o.type v l0 l hown A m c hb hm hlen hbase
   unfold Oper.wp execOp
   simp only [ho, resolve, invoke, builtin, Sem.run_bind, Sem.run_pure, Result.andThen_ok, List.map_toArray, List.map_cons, List.map_nil, hs, hx, hrun]
   exact hK _ _ (h v' w' h2 h3 h4)
theorem one_atS (w : World) (x y : Int) (hx : I64 x) (hy : I64 y) : SampsAt (w.alloc (.cells #[.int .i64 x, .int .i64 y] 66)) (some ⟨w.heap.size, 0, none⟩) [(x, y)] := by
 refine ⟨IsS.one hx hy, by simp, fun _ => ⟨w.heap.size, 0, rfl, by simp, fun j hj => ?_⟩⟩
 obtain rfl : j = 0 := by simpa using hj
 exact ⟨by rw [World.cell?_alloc_at _ _ _ _ rfl]; rfl, by rw [World.cell?_alloc_at _ _ _ _ rfl]; rfl⟩
theorem idxS (b off N cap j : Nat) (h : j < N) (w : World) : (Instr.indexAt 63 (.slice (some ⟨b, off, none⟩) N cap) (.int .i64 (j : Int))).run Try.prog w = .ok (.pointer (some ⟨b, off + 2 * j, none⟩)) w := by
 have hz := Try.sizeOf66
 have he : Try.prog.elem 63 = 66 := by kernel_rfl
 have hr := run_indexAt_slice (P := Try.prog) (w := w) 63 ⟨b, off, none⟩ N cap .i64 (j : Int) (by kernel_rfl)
 rw [hr, if_pos ⟨by omega, by omega⟩, he, hz]
 simp [Result.andThen, add_at, Nat.mul_comm]
end
section
open Go Go.RowKit
theorem info_co : (Try.prog.info? 46).map (fun i => (i.zero, i.size, i.bytes)) = some (some (.agg #[.int .i64 0, .int .i64 0]), 2, 16) := by kernel_rfl
def OwnC (B : Nat) (w : World) (v : Value) (l : List (Int × Int)) : Prop := w.ownsRow B 46 2 v l.length (s8s l) ∧ IsS l
theorem OwnC.at_ {B : Nat} {w : World} {v : Value} {l : List (Int × Int)} (h : OwnC B w v l) : ∃ A cap, v = .slice A l.length cap ∧ l.length ≤ cap ∧ cap ≤ 9223372036854775807 ∧ SampsAt w A l := by
 rcases h.1.2 with ⟨rfl, h0⟩ | ⟨g, cap, cur, rfl, hg, hh, hnc, hcp, hcs, htake⟩
 · obtain rfl : l = [] := List.length_eq_zero_iff.1 h0
   exact ⟨none, 0, rfl, Nat.le_refl _, by omega, SampsAt.nil _ _⟩
 · unfold maxLen at hcp
   have e : ∀ j, (⟨g, 0, none⟩ : Addr).add j = ⟨g, 0 + j, none⟩ := fun j => by unfold Addr.add; split <;> simp_all
   refine ⟨_, cap, rfl, hnc, hcp, h.2, by omega, fun _ => ⟨g, 0, rfl, (Array.getElem?_eq_some_iff.1 hh).1, fun j hj => ?_⟩⟩
   have hs := s8s_get l j hj
   have h1 := h.1.cells (g := g) rfl _ _ hs.1
   have h2 := h.1.cells (g := g) rfl _ _ hs.2
   rw [e] at h1 h2
   exact ⟨h1, h2⟩
theorem OwnC.kept {B : Nat} {w w' : World} {v : Value} {l : List (Int × Int)} (h : OwnC B w v l) {row : Option Nat} (hg : w.grownBy w' row) (hne : v.ownBlock = none ∨ v.ownBlock ≠ row) : OwnC B w' v l := ⟨h.1.kept hg hne, h.2⟩
theorem OwnC.alloc {B : Nat} {w : World} {v : Value} {l : List (Int × Int)} (h : OwnC B w v l) (o : Obj) : OwnC B (w.alloc o) v l := ⟨h.1.alloc o, h.2⟩
theorem OwnC.drew {B : Nat} {w : World} {v : Value} {l : List (Int × Int)} (h : OwnC B w v l) : OwnC B w.drew v l := h
theorem OwnC.nil_ (B : Nat) (w : World) : OwnC B w (.slice none 0 0) [] := ⟨World.ownsRow_nil _ _ _ _, IsS.nil⟩
theorem OwnC.ext {B : Nat} {w w' : World} {v : Value} {l : List (Int × Int)} (h : OwnC B w v l) (e : Ext w w') : OwnC B w' v l := by
 refine ⟨?_, h.2⟩
 obtain ⟨h1, h2 | ⟨g, cap, cur, hv, hg, hh, r⟩⟩ := h.1
 · exact ⟨h1, Or.inl h2⟩
 · exact ⟨h1, Or.inr ⟨g, cap, cur, hv, hg, by rw [e.block g (Array.getElem?_eq_some_iff.1 hh).1]; exact hh, r⟩⟩
theorem OwnC.less {B B' : Nat} {w : World} {v : Value} {l : List (Int × Int)} (h : OwnC B w v l) (hB : B' ≤ B) : OwnC B' w v l := by
 refine ⟨?_, h.2⟩
 obtain ⟨h1, h2 | ⟨g, cap, cur, hv, hg, r⟩⟩ := h.1
 · exact ⟨h1, Or.inl h2⟩
 · exact ⟨h1, Or.inr ⟨g, cap, cur, hv, by omega, r⟩⟩
theorem OwnC.upd {B b : Nat} {w w' : World} {v : Value} {l : List (Int × Int)} (h : OwnC B w v l) (u : Upd b w w') (hb : b < B) : OwnC B w' v l := by
 refine ⟨?_, h.2⟩
 obtain ⟨h1, h2 | ⟨g, cap, cur, hv, hg, hh, r⟩⟩ := h.1
 · exact ⟨h1, Or.inl h2⟩
 · exact ⟨h1, Or.inr ⟨g, cap, cur, hv, hg, by rw [u.2.2.2.2 g (Array.getElem?_eq_some_iff.1 hh).1 (by omega)]; exact hh, r⟩⟩
theorem own_co {w : World} {A : Option Addr} {c cap B : Nat} {l : List (Int × Int)} (h : OwnC B w (.slice A c cap) l) : SampsAt w A l := by
 obtain ⟨A', cap', he, _, _, hw⟩ := h.at_
 cases he
 exact hw
theorem run_appendC (B : Nat) (w : World) (ty : TypeId) (v : Value) (l0 l : List (Int × Int)) (hown : OwnC B w v l0) (A : Option Addr) (m c : Nat) (hb : SampsAt w A l) (hm : l.length = m) (hlen : l0.length + l.length ≤ 8796093022208) (hbase : B ≤ w.heap.size) :
   ∃ v' w', (Builtin.append_ #[39, 39] ty #[v, .slice A m c]).run Try.prog w = .ok v' w' ∧ OwnC B w' v' (l0 ++ l) ∧ w.grownBy w' v.ownBlock ∧ (v'.ownBlock = v.ownBlock ∨ v'.ownBlock = some w.heap.size) := by
 subst hm
 obtain ⟨i0, hi0, hz0, hz1, hz2⟩ := info_parts2 info_co
 have h63 : l0.length + l.length ≤ maxLen := by unfold maxLen; omega
 rcases A with _ | ad
 · have h0 : l = [] := by
     rcases Nat.eq_zero_or_pos l.length with h | h
     · exact List.length_eq_zero_iff.1 h
     · obtain ⟨b, off, h', _⟩ := hb.2.2 h
       cases h'
   subst h0
   refine ⟨v, w, ?_, by rw [List.append_nil]; exact hown, World.grownBy.refl w _, .inl rfl⟩
   rcases hown.1.2 with ⟨rfl, _⟩ | ⟨g, cap, cur, rfl, _, _, hnc, _⟩
   · simp [Builtin.append_, run_underlying Try.underlying39, sizeOf, typeInfo, hi0, Builtin.lenOf, Builtin.firstCells]
   · simp [Builtin.append_, run_underlying Try.underlying39, sizeOf, typeInfo, hi0, Builtin.lenOf, Builtin.firstCells, hnc, storeCells]
 · have hcells : ∀ j u, (s8s l)[j]? = some u → w.cell? (ad.add j) = some u := by
     intro j u hu
     have hj : j < l.length * 2 := by
       rcases Nat.lt_or_ge j (s8s l).length with h | h
       · rwa [s8s_len] at h
       · rw [List.getElem?_eq_none h] at hu; cases hu
     obtain ⟨b, off, h', _, hc⟩ := hb.2.2 (by omega)
     obtain rfl : ad = ⟨b, off, none⟩ := Option.some.inj h'
     have hs := s8s_get l (j / 2) (by omega)
     have hcj := hc (j / 2) (by omega)
     rw [add_at]
     rcases Nat.mod_two_eq_zero_or_one j with h | h
     · have e : 2 * (j / 2) = j := by omega
       rw [e] at hs hcj
       rw [hcj.1, ← hu, hs.1]
     · have e : 2 * (j / 2) + 1 = j := by omega
       rw [e] at hs hcj
       rw [hcj.2, ← hu, hs.2]
   obtain ⟨v', w', hrun, h2, h3, _, h5⟩ := run_append_own_at (P := Try.prog) w B 39 ty 46 i0 _ 2 16 Try.underlying39 hi0 hz0 hz1 hz2 rfl (by omega) v l0.length (s8s l0) hown.1 ad l.length c (s8s l) (s8s_len l) hcells (s8s_one l) h63 (by omega) hbase
   refine ⟨v', w', hrun, ⟨?_, hown.2.app hb.1⟩, h3, h5⟩
   rw [s8s_app, List.length_append]
   exact h2
theorem idxC (b off N cap j : Nat) (h : j < N) (w : World) : (Instr.indexAt 39 (.slice (some ⟨b, off, none⟩) N cap) (.int .i64 (j : Int))).run Try.prog w = .ok (.pointer (some ⟨b, off + 2 * j, none⟩)) w := by
 have hz := Try.sizeOf46
 have he : Try.prog.elem 39 = 46 := by kernel_rfl
 have hr := run_indexAt_slice (P := Try.prog) (w := w) 39 ⟨b, off, none⟩ N cap .i64 (j : Int) (by kernel_rfl)
 rw [hr, if_pos ⟨by omega, by omega⟩, he, hz]
 simp [Result.andThen, add_at, Nat.mul_comm]
end
section
open Go Go.RowKit Go.Sort
attribute [local go_sem] qUpon eUpon putE slE
theorem res2 {fn : Func} {p u : Tmp} {ty : TypeId} (h : fn.results = #[.cell p ty, .tmp u]) (tmps : Array Value) (w : World) (g : Nat) (t : TypeId) (cs : Array Value) (d : TypeDesc)
   (hp : tmps.getD p undef = .pointer (some ⟨g, 0, none⟩)) (hg : Blk w g t cs)
   (hu : Try.prog.underlying ty = some d) (hd : (match (generalizing := false) d with | .struct _ | .array _ _ => true | _ => false) = true) (hi : (Try.prog.info? ty).map (·.size) = some cs.size) :
   (results fn tmps).run Try.prog w = .ok (.tuple #[.agg cs, tmps.getD u undef]) w := by
 have hp' : tmps[p]?.getD undef = .pointer (some ⟨g, 0, none⟩) := by simpa using hp
 simp [results, h, hp', asAddr, run_loadVar_row w g t ty cs (0, 0) d hg hu (by cases d <;> first | rfl | exact hd) hi, Sem.run_bind, Result.andThen]
theorem res3 {fn : Func} {p u u2 : Tmp} {ty : TypeId} (h : fn.results = #[.cell p ty, .tmp u, .tmp u2]) (tmps : Array Value) (w : World) (g : Nat) (t : TypeId) (cs : Array Value) (d : TypeDesc)
   (hp : tmps.getD p undef = .pointer (some ⟨g, 0, none⟩)) (hg : Blk w g t cs)
   (hu : Try.prog.underlying ty = some d) (hd : (match (generalizing := false) d with | .struct _ | .array _ _ => true | _ => false) = true) (hi : (Try.prog.info? ty).map (·.size) = some cs.size) :
   (results fn tmps).run Try.prog w = .ok (.tuple #[.agg cs, tmps.getD u undef, tmps.getD u2 undef]) w := by
 have hp' : tmps[p]?.getD undef = .pointer (some ⟨g, 0, none⟩) := by simpa using hp
 simp [results, h, hp', asAddr, run_loadVar_row w g t ty cs (0, 0) d hg hu (by cases d <;> first | rfl | exact hd) hi, Sem.run_bind, Result.andThen]
theorem q_buildM {a : Act} {o : Oper} {w : World} {t : TypeId} {parts : Array (Nat × Operand)} {vs : Array (Nat × Value)} {cells : Array Value} (ho : o.op = .build t parts) (hx : (parts.map fun (i, x) => (i, a.eval x)) = vs) (h : Try.prog.built t vs.toList = some cells) : qUpon Try.prog w (.agg cells) ((execOp a.eval o).run Try.prog w) := by
 have hr := run_build (P := Try.prog) w t vs cells h
 unfold execOp
 simp only [ho, hx, Sem.run_bind, hr, Result.andThen_ok, Sem.run_pure]
 exact ⟨rfl, rfl⟩
def miR (t c lo hi : Int) : Array Value := #[.int .i64 t, .int .i64 c, .int .i64 lo, .int .i64 hi]
def z4m : Array Value := #[.int .i64 0, .int .i64 0, .int .i64 0, .int .i64 0]
theorem miR_one (t c lo hi : Int) : (miR t c lo hi).all (·.oneCell') = true := by kernel_rfl
theorem z4m_one : z4m.all (·.oneCell') = true := by kernel_rfl
theorem b_mi0 : Try.prog.built 23 [] = some z4m := by kernel_rfl
theorem b_miT (e : Int) : Try.prog.built 23 [(0, .int .i64 e)] = some (miR e 0 0 0) := by kernel_rfl
theorem b_mi4 (t c lo hi : Int) : Try.prog.built 23 [(0, .int .i64 t), (1, .int .i64 c), (2, .int .i64 lo), (3, .int .i64 hi)] = some (miR t c lo hi) := by kernel_rfl
def CoGet (l : List (Int × Int)) (W : World) (e : Ending) (w' : World) : Prop := ∃ A c, e = .returned (.slice A l.length c) ∧ OwnC W.heap.size w' (.slice A l.length c) l ∧ Ext W w'
def endL (c lo hi : Int) : List (Int × Int) := if c = 0 then [] else [(c, (lo + hi) / 2)]
def CoFin (l : List (Int × Int)) (er : Nat) (W : World) (e : Ending) (w' : World) : Prop := ∃ A c, e = .returned (.tuple #[.slice A l.length c, .int .i64 (er : Int)]) ∧ OwnC W.heap.size w' (.slice A l.length c) l ∧ Ext W w'
def CoStep (t c lo hi : Int) (l : List (Int × Int)) (er : Nat) (W : World) (e : Ending) (w' : World) : Prop := ∃ A k, e = .returned (.tuple #[.agg (miR t c lo hi), .slice A l.length k, .int .i64 (er : Int)]) ∧ OwnC W.heap.size w' (.slice A l.length k) l ∧ Ext W w'
set_option maxHeartbeats 3200000 in
set_option maxRecDepth 100000 in
theorem p_startM (e : Int) (W : World) (kt : Hid (∀ w, Calls Try.prog 27 #[.int .i64 e] w (Ret (.bool true) w))) : Calls Try.prog 10 #[.int .i64 e] W (Ret (.tuple #[.agg (miR e 0 0 0), .int .i64 0]) W) := by
 have P2 := Blk.new W 23 z4m
 have EE := hide (ext_alloc W (.cells z4m 23))
 obtain ⟨W1, hW1⟩ : ∃ W1, (W.alloc (.cells z4m 23)) = W1 := ⟨_, rfl⟩
 obtain ⟨g0, hg⟩ : ∃ g, W.heap.size = g := ⟨_, rfl⟩
 rw [hW1] at P2 EE
 rw [hg] at P2
 have P2_lo : W.heap.size ≤ g0 := by omega
 have HW := hide hW1
 have Hg := hide hg
 clear hW1 hg
 go_enter Try.func10, Try.ntmps10
 go_upto_region 1 with fail
 unfold z4m at HW
 rw [HW.out, Hg.out]
 clear HW Hg
 refine wp_region_reads ?_
 repeat (first | go_big_quiet_step (first | with_reducible exact quiet_ret (kt.out _)) | quiet_step (first | with_reducible exact quiet_ret (kt.out _)))
 refine wpQuiet_nil ?_
 intro _ hw'
 obtain ⟨⟨dq, osq⟩, hw''⟩ := hw'
 subst hw''
 replace P2 := (P2).ext (ext_regrown W1 dq osq)
 replace EE := hide (EE.out.trans (ext_regrown W1 dq osq))
 obtain ⟨w2, hzq1⟩ : ∃ w, grow (redrawn W1 dq) osq = w := ⟨_, rfl⟩
 rw [hzq1] at EE P2 ⊢
 clear hzq1
 go_upto_region 3 with fail
 have P2_lt := P2.lt
 refine wp_evs [.q, .q, .so 0, .q] [0, 0, 0, 0] (fun R => [.int .i64 e, .agg (miR e 0 0 0), undef, .int .i64 0]) (fun _ => (.cells #[] 0 (0, 0))) (fun R _ => (.cells (miR e 0 0 0) 23 (0, 0))) (fun _ => g0) (XE W) (fun _ => False) (by kernel_rfl) (by kernel_rfl) (by kernel_rfl) rfl (fun _ => rfl) (fun _ h => h.elim) (fun _ _ h => h) (by intro c hc; simp at hc; (try subst hc); (try simp only); omega) (by intro c c' h1 h2 _; simp at h1 h2; omega) (fun R R' => ⟨fun _ => rfl, fun _ => rfl, fun _ => rfl, fun _ => rfl, trivial⟩) (fun _ _ _ _ => rfl) xe_below EE.out ?ops6 ?end6
 case ops6 =>
   refine ⟨?_, ?_, ?_, ?_, trivial⟩
   · refine er_q ?vn3 ?hn3 ?kn3 ?gn3 ?_
     case hn3 => exact rfl
     case vn3 => exact (fun R => .int .i64 e)
     case kn3 => exact (fun R => rfl)
     case gn3 => exact gd_none rfl
     intro R s w' hT hs hw ha
     go_simp
   · refine er_q ?vn4 ?hn4 ?kn4 ?gn4 ?_
     case hn4 => exact rfl
     case vn4 => exact (fun R => .agg (miR e 0 0 0))
     case kn4 => exact (fun R => rfl)
     case gn4 => exact gd_none rfl
     intro R s w' hT hs hw ha
     generalize hA : putE _ _ _ _ _ _ _ = AA
     refine q_buildM (vs := #[(0, .int .i64 e)]) rfl ?_ (b_miT e)
     subst hA
     kernel_rfl
   · refine er_so (c := 0) (Ty := ?Tn5) (p := ?pn5) (x := ?xn5) g0 ?fn5 ?un5 ?vn5 ?hn5 ?on5 ?kn5 ?ln5 ?gn5 ?dn5 ?en5 ?_
     case hn5 => exact rfl
     case on5 => exact rfl
     case fn5 => exact (fun R => (.cells (miR e 0 0 0) 23 (0, 0)))
     case un5 => exact (fun R => .pointer (some ⟨g0, 0, none⟩))
     case vn5 => exact (fun R => .agg (miR e 0 0 0))
     case kn5 => exact (fun R => rfl)
     case ln5 => exact rfl
     case gn5 => exact gd_none rfl
     case dn5 =>
       intro R
       kernel_rfl
     case en5 =>
       intro R
       kernel_rfl
     intro R s ρ w hT hs hp hx hz
     refine ⟨store_rowN (g := g0) rfl hp hx (hz.trans P2) iMid (rfl) (rfl) (miR_one _ _ _ _), fun w1 hF => ext_filled hT hF P2_lo⟩
   · refine er_q ?vn6 ?hn6 ?kn6 ?gn6 ?_
     case hn6 => exact rfl
     case vn6 => exact (fun R => .int .i64 0)
     case kn6 => exact (fun R => rfl)
     case gn6 => exact gd_none rfl
     intro R s w' hT hs hw ha
     go_simp
 case end6 =>
  intro sI R G w7 hI
  have hS := hI.same
  have hTT := hI.holds
  have hz0 := EE.out.size
  replace P2 : Blk w7 g0 23 (miR e 0 0 0) := hI.olds' 2 (List.mem_range.2 (show 2 < 4 by decide)) 0 rfl
  replace EE := hide (show Ext _ _ from hTT)
  clear hS hz0 hTT hI P2_lt
  generalize hF : putE _ _ _ _ _ _ _ = FF
  have hF2 : FF = { tmps := #[.int .i64 e, undef, .pointer (some ⟨g0, 0, none⟩), .int .i64 0, .int .i64 e, .bool true, .bool false, undef, .int .i64 e, .agg (miR e 0 0 0)], defers := [] } := by subst hF; kernel_rfl
  clear hF
  subst hF2
  go_wp2_with fail
  exact bodyPost_ret (res2 (p := 2) (u := 3) (ty := 23) rfl _ _ _ 23 (miR e 0 0 0) _ rfl P2 uMid rfl iMid) rfl ⟨by kernel_rfl, EE.out⟩
set_option maxHeartbeats 3200000 in
set_option maxRecDepth 100000 in
theorem p_startM_no (e : Int) (W : World) (kt : Hid (∀ w, Calls Try.prog 27 #[.int .i64 e] w (Ret (.bool false) w))) : Calls Try.prog 10 #[.int .i64 e] W (Ret (.tuple #[.agg z4m, .int .i64 9]) W) := by
 have P2 := Blk.new W 23 z4m
 have EE := hide (ext_alloc W (.cells z4m 23))
 obtain ⟨W1, hW1⟩ : ∃ W1, (W.alloc (.cells z4m 23)) = W1 := ⟨_, rfl⟩
 obtain ⟨g0, hg⟩ : ∃ g, W.heap.size = g := ⟨_, rfl⟩
 rw [hW1] at P2 EE
 rw [hg] at P2
 have P2_lo : W.heap.size ≤ g0 := by omega
 have HW := hide hW1
 have Hg := hide hg
 clear hW1 hg
 go_enter Try.func10, Try.ntmps10
 go_upto_region 1 with fail
 unfold z4m at HW
 rw [HW.out, Hg.out]
 clear HW Hg
 refine wp_region_reads ?_
 repeat (first | go_big_quiet_step (first | with_reducible exact quiet_ret (kt.out _)) | quiet_step (first | with_reducible exact quiet_ret (kt.out _)))
 refine wpQuiet_nil ?_
 intro _ hw'
 obtain ⟨⟨dq, osq⟩, hw''⟩ := hw'
 subst hw''
 replace P2 := (P2).ext (ext_regrown W1 dq osq)
 replace EE := hide (EE.out.trans (ext_regrown W1 dq osq))
 obtain ⟨w2, hzq1⟩ : ∃ w, grow (redrawn W1 dq) osq = w := ⟨_, rfl⟩
 rw [hzq1] at EE P2 ⊢
 clear hzq1
 go_upto_region 2 with fail
 have P2_lt := P2.lt
 refine wp_evs [.q, .so 0, .q] [0, 0, 0] (fun R => [.agg z4m, undef, .int .i64 9]) (fun _ => (.cells #[] 0 (0, 0))) (fun R _ => (.cells z4m 23 (0, 0))) (fun _ => g0) (XE W) (fun _ => False) (by kernel_rfl) (by kernel_rfl) (by kernel_rfl) rfl (fun _ => rfl) (fun _ h => h.elim) (fun _ _ h => h) (by intro c hc; simp at hc; (try subst hc); (try simp only); omega) (by intro c c' h1 h2 _; simp at h1 h2; omega) (fun R R' => ⟨fun _ => rfl, fun _ => rfl, fun _ => rfl, trivial⟩) (fun _ _ _ _ => rfl) xe_below EE.out ?ops5 ?end5
 case ops5 =>
   refine ⟨?_, ?_, ?_, trivial⟩
   · refine er_q ?vn3 ?hn3 ?kn3 ?gn3 ?_
     case hn3 => exact rfl
     case vn3 => exact (fun R => .agg z4m)
     case kn3 => exact (fun R => rfl)
     case gn3 => exact gd_none rfl
     intro R s w' hT hs hw ha
     generalize hA : putE _ _ _ _ _ _ _ = AA
     refine q_buildM (vs := #[]) rfl ?_ (b_mi0)
     subst hA
     kernel_rfl
   · refine er_so (c := 0) (Ty := ?Tn4) (p := ?pn4) (x := ?xn4) g0 ?fn4 ?un4 ?vn4 ?hn4 ?on4 ?kn4 ?ln4 ?gn4 ?dn4 ?en4 ?_
     case hn4 => exact rfl
     case on4 => exact rfl
     case fn4 => exact (fun R => (.cells z4m 23 (0, 0)))
     case un4 => exact (fun R => .pointer (some ⟨g0, 0, none⟩))
     case vn4 => exact (fun R => .agg z4m)
     case kn4 => exact (fun R => rfl)
     case ln4 => exact rfl
     case gn4 => exact gd_none rfl
     case dn4 =>
       intro R
       kernel_rfl
     case en4 =>
       intro R
       kernel_rfl
     intro R s ρ w hT hs hp hx hz
     refine ⟨store_rowN (g := g0) rfl hp hx (hz.trans P2) iMid (rfl) (rfl) (z4m_one), fun w1 hF => ext_filled hT hF P2_lo⟩
   · refine er_q ?vn5 ?hn5 ?kn5 ?gn5 ?_
     case hn5 => exact rfl
     case vn5 => exact (fun R => .int .i64 9)
     case kn5 => exact (fun R => rfl)
     case gn5 => exact gd_none rfl
     intro R s w' hT hs hw ha
     go_simp
 case end5 =>
  intro sI R G w6 hI
  have hS := hI.same
  have hTT := hI.holds
  have hz0 := EE.out.size
  replace P2 : Blk w6 g0 23 z4m := hI.olds' 1 (List.mem_range.2 (show 1 < 3 by decide)) 0 rfl
  replace EE := hide (show Ext _ _ from hTT)
  clear hS hz0 hTT hI P2_lt
  generalize hF : putE _ _ _ _ _ _ _ = FF
  have hF2 : FF = { tmps := #[.int .i64 e, undef, .pointer (some ⟨g0, 0, none⟩), .int .i64 9, .int .i64 e, .bool false, .bool true, .agg z4m, undef, undef], defers := [] } := by subst hF; kernel_rfl
  clear hF
  subst hF2
  go_wp2_with fail
  exact bodyPost_ret (res2 (p := 2) (u := 3) (ty := 23) rfl _ _ _ 23 z4m _ rfl P2 uMid rfl iMid) rfl ⟨by kernel_rfl, EE.out⟩
set_option maxHeartbeats 3200000 in
set_option maxRecDepth 100000 in
theorem r_startM (e : Int) (W : World) (kt : Hid (∀ w, Calls Try.prog 28 #[.int .i64 e] w (Ret (.bool true) w))) : Calls Try.prog 11 #[.int .i64 e] W (Ret (.tuple #[.agg (miR e 0 0 0), .int .i64 0]) W) := by
 have P2 := Blk.new W 23 z4m
 have EE := hide (ext_alloc W (.cells z4m 23))
 obtain ⟨W1, hW1⟩ : ∃ W1, (W.alloc (.cells z4m 23)) = W1 := ⟨_, rfl⟩
 obtain ⟨g0, hg⟩ : ∃ g, W.heap.size = g := ⟨_, rfl⟩
 rw [hW1] at P2 EE
 rw [hg] at P2
 have P2_lo : W.heap.size ≤ g0 := by omega
 have HW := hide hW1
 have Hg := hide hg
 clear hW1 hg
 go_enter Try.func11, Try.ntmps11
 go_upto_region 1 with fail
 unfold z4m at HW
 rw [HW.out, Hg.out]
 clear HW Hg
 refine wp_region_reads ?_
 repeat (first | go_big_quiet_step (first | with_reducible exact quiet_ret (kt.out _)) | quiet_step (first | with_reducible exact quiet_ret (kt.out _)))
 refine wpQuiet_nil ?_
 intro _ hw'
 obtain ⟨⟨dq, osq⟩, hw''⟩ := hw'
 subst hw''
 replace P2 := (P2).ext (ext_regrown W1 dq osq)
 replace EE := hide (EE.out.trans (ext_regrown W1 dq osq))
 obtain ⟨w2, hzq1⟩ : ∃ w, grow (redrawn W1 dq) osq = w := ⟨_, rfl⟩
 rw [hzq1] at EE P2 ⊢
 clear hzq1
 go_upto_region 3 with fail
 have P2_lt := P2.lt
 refine wp_evs [.q, .q, .so 0, .q] [0, 0, 0, 0] (fun R => [.int .i64 e, .agg (miR e 0 0 0), undef, .int .i64 0]) (fun _ => (.cells #[] 0 (0, 0))) (fun R _ => (.cells (miR e 0 0 0) 23 (0, 0))) (fun _ => g0) (XE W) (fun _ => False) (by kernel_rfl) (by kernel_rfl) (by kernel_rfl) rfl (fun _ => rfl) (fun _ h => h.elim) (fun _ _ h => h) (by intro c hc; simp at hc; (try subst hc); (try simp only); omega) (by intro c c' h1 h2 _; simp at h1 h2; omega) (fun R R' => ⟨fun _ => rfl, fun _ => rfl, fun _ => rfl, fun _ => rfl, trivial⟩) (fun _ _ _ _ => rfl) xe_below EE.out ?ops6 ?end6
 case ops6 =>
   refine ⟨?_, ?_, ?_, ?_, trivial⟩
   · refine er_q ?vn3 ?hn3 ?kn3 ?gn3 ?_
     case hn3 => exact rfl
     case vn3 => exact (fun R => .int .i64 e)
     case kn3 => exact (fun R => rfl)
     case gn3 => exact gd_none rfl
     intro R s w' hT hs hw ha
     go_simp
   · refine er_q ?vn4 ?hn4 ?kn4 ?gn4 ?_
     case hn4 => exact rfl
     case vn4 => exact (fun R => .agg (miR e 0 0 0))
     case kn4 => exact (fun R => rfl)
     case gn4 => exact gd_none rfl
     intro R s w' hT hs hw ha
     generalize hA : putE _ _ _ _ _ _ _ = AA
     refine q_buildM (vs := #[(0, .int .i64 e)]) rfl ?_ (b_miT e)
     subst hA
     kernel_rfl
   · refine er_so (c := 0) (Ty := ?Tn5) (p := ?pn5) (x := ?xn5) g0 ?fn5 ?un5 ?vn5 ?hn5 ?on5 ?kn5 ?ln5 ?gn5 ?dn5 ?en5 ?_
     case hn5 => exact rfl
     case on5 => exact rfl
     case fn5 => exact (fun R => (.cells (miR e 0 0 0) 23 (0, 0)))
     case un5 => exact (fun R => .pointer (some ⟨g0, 0, none⟩))
     case vn5 => exact (fun R => .agg (miR e 0 0 0))
     case kn5 => exact (fun R => rfl)
     case ln5 => exact rfl
     case gn5 => exact gd_none rfl
     case dn5 =>
       intro R
       kernel_rfl
     case en5 =>
       intro R
       kernel_rfl
     intro R s ρ w hT hs hp hx hz
     refine ⟨store_rowN (g := g0) rfl hp hx (hz.trans P2) iMid (rfl) (rfl) (miR_one _ _ _ _), fun w1 hF => ext_filled hT hF P2_lo⟩
   · refine er_q ?vn6 ?hn6 ?kn6 ?gn6 ?_
     case hn6 => exact rfl
     case vn6 => exact (fun R => .int .i64 0)
     case kn6 => exact (fun R => rfl)
     case gn6 => exact gd_none rfl
     intro R s w' hT hs hw ha
     go_simp
 case end6 =>
  intro sI R G w7 hI
  have hS := hI.same
  have hTT := hI.holds
  have hz0 := EE.out.size
  replace P2 : Blk w7 g0 23 (miR e 0 0 0) := hI.olds' 2 (List.mem_range.2 (show 2 < 4 by decide)) 0 rfl
  replace EE := hide (show Ext _ _ from hTT)
  clear hS hz0 hTT hI P2_lt
  generalize hF : putE _ _ _ _ _ _ _ = FF
  have hF2 : FF = { tmps := #[.int .i64 e, undef, .pointer (some ⟨g0, 0, none⟩), .int .i64 0, .int .i64 e, .bool true, .bool false, undef, .int .i64 e, .agg (miR e 0 0 0)], defers := [] } := by subst hF; kernel_rfl
  clear hF
  subst hF2
  go_wp2_with fail
  exact bodyPost_ret (res2 (p := 2) (u := 3) (ty := 23) rfl _ _ _ 23 (miR e 0 0 0) _ rfl P2 uMid rfl iMid) rfl ⟨by kernel_rfl, EE.out⟩
set_option maxHeartbeats 3200000 in
set_option maxRecDepth 100000 in
theorem r_startM_no (e : Int) (W : World) (kt : Hid (∀ w, Calls Try.prog 28 #[.int .i64 e] w (Ret (.bool false) w))) : Calls Try.prog 11 #[.int .i64 e] W (Ret (.tuple #[.agg z4m, .int .i64 9]) W) := by
 have P2 := Blk.new W 23 z4m
 have EE := hide (ext_alloc W (.cells z4m 23))
 obtain ⟨W1, hW1⟩ : ∃ W1, (W.alloc (.cells z4m 23)) = W1 := ⟨_, rfl⟩
 obtain ⟨g0, hg⟩ : ∃ g, W.heap.size = g := ⟨_, rfl⟩
 rw [hW1] at P2 EE
 rw [hg] at P2
 have P2_lo : W.heap.size ≤ g0 := by omega
 have HW := hide hW1
 have Hg := hide hg
 clear hW1 hg
 go_enter Try.func11, Try.ntmps11
 go_upto_region 1 with fail
 unfold z4m at HW
 rw [HW.out, Hg.out]
 clear HW Hg
 refine wp_region_reads ?_
 repeat (first | go_big_quiet_step (first | with_reducible exact quiet_ret (kt.out _)) | quiet_step (first | with_reducible exact quiet_ret (kt.out _)))
 refine wpQuiet_nil ?_
 intro _ hw'
 obtain ⟨⟨dq, osq⟩, hw''⟩ := hw'
 subst hw''
 replace P2 := (P2).ext (ext_regrown W1 dq osq)
 replace EE := hide (EE.out.trans (ext_regrown W1 dq osq))
 obtain ⟨w2, hzq1⟩ : ∃ w, grow (redrawn W1 dq) osq = w := ⟨_, rfl⟩
 rw [hzq1] at EE P2 ⊢
 clear hzq1
 go_upto_region 2 with fail
 have P2_lt := P2.lt
 refine wp_evs [.q, .so 0, .q] [0, 0, 0] (fun R => [.agg z4m, undef, .int .i64 9]) (fun _ => (.cells #[] 0 (0, 0))) (fun R _ => (.cells z4m 23 (0, 0))) (fun _ => g0) (XE W) (fun _ => False) (by kernel_rfl) (by kernel_rfl) (by kernel_rfl) rfl (fun _ => rfl) (fun _ h => h.elim) (fun _ _ h => h) (by intro c hc; simp at hc; (try subst hc); (try simp only); omega) (by intro c c' h1 h2 _; simp at h1 h2; omega) (fun R R' => ⟨fun _ => rfl, fun _ => rfl, fun _ => rfl, trivial⟩) (fun _ _ _ _ => rfl) xe_below EE.out ?ops5 ?end5
 case ops5 =>
   refine ⟨?_, ?_, ?_, trivial⟩
   · refine er_q ?vn3 ?hn3 ?kn3 ?gn3 ?_
     case hn3 => exact rfl
     case vn3 => exact (fun R => .agg z4m)
     case kn3 => exact (fun R => rfl)
     case gn3 => exact gd_none rfl
     intro R s w' hT hs hw ha
     generalize hA : putE _ _ _ _ _ _ _ = AA
     refine q_buildM (vs := #[]) rfl ?_ (b_mi0)
     subst hA
     kernel_rfl
   · refine er_so (c := 0) (Ty := ?Tn4) (p := ?pn4) (x := ?xn4) g0 ?fn4 ?un4 ?vn4 ?hn4 ?on4 ?kn4 ?ln4 ?gn4 ?dn4 ?en4 ?_
     case hn4 => exact rfl
     case on4 => exact rfl
     case fn4 => exact (fun R => (.cells z4m 23 (0, 0)))
     case un4 => exact (fun R => .pointer (some ⟨g0, 0, none⟩))
     case vn4 => exact (fun R => .agg z4m)
     case kn4 => exact (fun R => rfl)
     case ln4 => exact rfl
     case gn4 => exact gd_none rfl
     case dn4 =>
       intro R
       kernel_rfl
     case en4 =>
       intro R
       kernel_rfl
     intro R s ρ w hT hs hp hx hz
     refine ⟨store_rowN (g := g0) rfl hp hx (hz.trans P2) iMid (rfl) (rfl) (z4m_one), fun w1 hF => ext_filled hT hF P2_lo⟩
   · refine er_q ?vn5 ?hn5 ?kn5 ?gn5 ?_
     case hn5 => exact rfl
     case vn5 => exact (fun R => .int .i64 9)
     case kn5 => exact (fun R => rfl)
     case gn5 => exact gd_none rfl
     intro R s w' hT hs hw ha
     go_simp
 case end5 =>
  intro sI R G w6 hI
  have hS := hI.same
  have hTT := hI.holds
  have hz0 := EE.out.size
  replace P2 : Blk w6 g0 23 z4m := hI.olds' 1 (List.mem_range.2 (show 1 < 3 by decide)) 0 rfl
  replace EE := hide (show Ext _ _ from hTT)
  clear hS hz0 hTT hI P2_lt
  generalize hF : putE _ _ _ _ _ _ _ = FF
  have hF2 : FF = { tmps := #[.int .i64 e, undef, .pointer (some ⟨g0, 0, none⟩), .int .i64 9, .int .i64 e, .bool false, .bool true, .agg z4m, undef, undef], defers := [] } := by subst hF; kernel_rfl
  clear hF
  subst hF2
  go_wp2_with fail
  exact bodyPost_ret (res2 (p := 2) (u := 3) (ty := 23) rfl _ _ _ 23 z4m _ rfl P2 uMid rfl iMid) rfl ⟨by kernel_rfl, EE.out⟩
set_option maxHeartbeats 3200000 in
set_option maxRecDepth 100000 in
theorem p_ext0 (t c lo hi v : Int) (W : World) (d0 : (c == 0) = true) : Calls Try.prog 45 #[.agg (miR t c lo hi), .int .i64 v] W (Ret (.tuple #[.agg z4m, .bool false]) W) := by
 have P2 := (Blk.new W 23 (miR t c lo hi)).alloc (.cells z4m 23)
 have P4 := Blk.new (W.alloc (.cells (miR t c lo hi) 23)) 23 z4m
 rw [alloc_size] at P4
 have EE := hide ((ext_alloc W (.cells (miR t c lo hi) 23)).trans (ext_alloc _ (.cells z4m 23)))
 obtain ⟨W1, hW1⟩ : ∃ W1, ((W.alloc (.cells (miR t c lo hi) 23)).alloc (.cells z4m 23)) = W1 := ⟨_, rfl⟩
 obtain ⟨g0, hg⟩ : ∃ g, W.heap.size = g := ⟨_, rfl⟩
 rw [hW1] at P2 P4 EE
 rw [hg] at P2 P4
 have P2_lo : W.heap.size ≤ g0 := by omega
 have P4_lo : W.heap.size ≤ g0 + 1 := by omega
 have HW := hide hW1
 have Hg := hide hg
 clear hW1 hg
 go_enter Try.func45, Try.ntmps45
 go_upto_region 1 with fail
 unfold z4m at HW
 rw [HW.out, Hg.out]
 clear HW Hg
 have cq1_0 := fun d os => (((P2).ext (ext_regrown W1 d os)).cell 2).trans (show (miR t c lo hi)[2]? = some (.int .i64 lo) from rfl)
 have cq1_1 := fun d os => (((P2).ext (ext_regrown W1 d os)).cell 3).trans (show (miR t c lo hi)[3]? = some (.int .i64 hi) from rfl)
 refine wp_region_quiet_below (by kernel_rfl) (by kernel_rfl) ?_
 repeat (first | go_big_quiet_step (fail) | quiet_step (fail))
 refine wpQuiet_nil ?_
 intro _ hw'
 obtain ⟨⟨dq, osq⟩, hw''⟩ := hw'
 subst hw''
 replace P2 := (P2).ext (ext_regrown W1 dq osq)
 replace P4 := (P4).ext (ext_regrown W1 dq osq)
 replace EE := hide (EE.out.trans (ext_regrown W1 dq osq))
 obtain ⟨w2, hzq1⟩ : ∃ w, grow (redrawn W1 dq) osq = w := ⟨_, rfl⟩
 rw [hzq1] at EE P2 P4 ⊢
 clear hzq1 cq1_0 cq1_1
 go_upto_region 2 with fail
 have cq3_0 := fun d os => (((P2).ext (ext_regrown w2 d os)).cell 1).trans (show (miR t c lo hi)[1]? = some (.int .i64 c) from rfl)
 refine wp_region_reads ?_
 repeat (first | go_big_quiet_step (fail) | quiet_step (fail))
 refine wpQuiet_nil ?_
 intro _ hw'
 obtain ⟨⟨dq, osq⟩, hw''⟩ := hw'
 subst hw''
 replace P2 := (P2).ext (ext_regrown w2 dq osq)
 replace P4 := (P4).ext (ext_regrown w2 dq osq)
 replace EE := hide (EE.out.trans (ext_regrown w2 dq osq))
 obtain ⟨w4, hzq3⟩ : ∃ w, grow (redrawn w2 dq) osq = w := ⟨_, rfl⟩
 rw [hzq3] at EE P2 P4 ⊢
 clear hzq3 cq3_0
 go_upto_region 3 with fail
 have P2_lt := P2.lt
 have P4_lt := P4.lt
 refine wp_evs [.q, .so 0, .q] [0, 0, 0] (fun R => [.agg z4m, undef, .bool false]) (fun _ => (.cells #[] 0 (0, 0))) (fun R _ => (.cells z4m 23 (0, 0))) (fun _ => g0 + 1) (XE W) (fun _ => False) (by kernel_rfl) (by kernel_rfl) (by kernel_rfl) rfl (fun _ => rfl) (fun _ h => h.elim) (fun _ _ h => h) (by intro c hc; simp at hc; (try subst hc); (try simp only); omega) (by intro c c' h1 h2 _; simp at h1 h2; omega) (fun R R' => ⟨fun _ => rfl, fun _ => rfl, fun _ => rfl, trivial⟩) (fun _ _ _ _ => rfl) xe_below EE.out ?ops7 ?end7
 case ops7 =>
   refine ⟨?_, ?_, ?_, trivial⟩
   · refine er_q ?vn5 ?hn5 ?kn5 ?gn5 ?_
     case hn5 => exact rfl
     case vn5 => exact (fun R => .agg z4m)
     case kn5 => exact (fun R => rfl)
     case gn5 => exact gd_none rfl
     intro R s w' hT hs hw ha
     generalize hA : putE _ _ _ _ _ _ _ = AA
     refine q_buildM (vs := #[]) rfl ?_ (b_mi0)
     subst hA
     kernel_rfl
   · refine er_so (c := 0) (Ty := ?Tn6) (p := ?pn6) (x := ?xn6) (g0 + 1) ?fn6 ?un6 ?vn6 ?hn6 ?on6 ?kn6 ?ln6 ?gn6 ?dn6 ?en6 ?_
     case hn6 => exact rfl
     case on6 => exact rfl
     case fn6 => exact (fun R => (.cells z4m 23 (0, 0)))
     case un6 => exact (fun R => .pointer (some ⟨g0 + 1, 0, none⟩))
     case vn6 => exact (fun R => .agg z4m)
     case kn6 => exact (fun R => rfl)
     case ln6 => exact rfl
     case gn6 => exact gd_none rfl
     case dn6 =>
       intro R
       kernel_rfl
     case en6 =>
       intro R
       kernel_rfl
     intro R s ρ w hT hs hp hx hz
     refine ⟨store_rowN (g := (g0 + 1)) rfl hp hx (hz.trans P4) iMid (rfl) (rfl) (z4m_one), fun w1 hF => ext_filled hT hF P4_lo⟩
   · refine er_q ?vn7 ?hn7 ?kn7 ?gn7 ?_
     case hn7 => exact rfl
     case vn7 => exact (fun R => .bool false)
     case kn7 => exact (fun R => rfl)
     case gn7 => exact gd_none rfl
     intro R s w' hT hs hw ha
     go_simp
 case end7 =>
  intro sI R G w8 hI
  have hS := hI.same
  have hTT := hI.holds
  have hz0 := EE.out.size
  replace P2 := P2.sameE hS (fun h => h) (by intro c hc; simp at hc; (try subst hc); (try simp only); omega)
  replace P4 : Blk w8 (g0 + 1) 23 z4m := hI.olds' 1 (List.mem_range.2 (show 1 < 3 by decide)) 0 rfl
  replace EE := hide (show Ext _ _ from hTT)
  clear hS hz0 hTT hI P2_lt P4_lt
  generalize hF : putE _ _ _ _ _ _ _ = FF
  have hF2 : FF = { tmps := #[.agg (miR t c lo hi), .int .i64 v, .pointer (some ⟨g0, 0, none⟩), undef, .pointer (some ⟨g0 + 1, 0, none⟩), .bool false, .int .i64 (min lo v), .int .i64 (max hi v), .pointer (some ⟨g0, 2, none⟩), .int .i64 lo, .int .i64 v, .int .i64 (min lo v), .pointer (some ⟨g0, 3, none⟩), .int .i64 hi, .int .i64 v, .int .i64 (max hi v), .pointer (some ⟨g0, 1, none⟩), .int .i64 c, .bool true, .bool true, undef, undef, undef, undef, undef, undef, .bool true, .agg z4m, undef, undef, undef, undef, undef, undef, undef, undef], defers := [] } := by subst hF; kernel_rfl
  clear hF
  subst hF2
  go_wp2_with fail
  exact bodyPost_ret (res2 (p := 4) (u := 5) (ty := 23) rfl _ _ _ 23 z4m _ rfl P4 uMid rfl iMid) rfl ⟨by kernel_rfl, EE.out⟩
set_option maxHeartbeats 3200000 in
set_option maxRecDepth 100000 in
theorem p_extN (t c lo hi v : Int) (W : World) (d0 : (c == 0) = false) (kh : Hid (∀ w, Calls Try.prog 42 #[.int .i64 (min lo v), .int .i64 (max hi v), .int .i64 t] w (Ret (.bool false) w))) : Calls Try.prog 45 #[.agg (miR t c lo hi), .int .i64 v] W (Ret (.tuple #[.agg z4m, .bool false]) W) := by
 have P2 := (Blk.new W 23 (miR t c lo hi)).alloc (.cells z4m 23)
 have P4 := Blk.new (W.alloc (.cells (miR t c lo hi) 23)) 23 z4m
 rw [alloc_size] at P4
 have EE := hide ((ext_alloc W (.cells (miR t c lo hi) 23)).trans (ext_alloc _ (.cells z4m 23)))
 obtain ⟨W1, hW1⟩ : ∃ W1, ((W.alloc (.cells (miR t c lo hi) 23)).alloc (.cells z4m 23)) = W1 := ⟨_, rfl⟩
 obtain ⟨g0, hg⟩ : ∃ g, W.heap.size = g := ⟨_, rfl⟩
 rw [hW1] at P2 P4 EE
 rw [hg] at P2 P4
 have P2_lo : W.heap.size ≤ g0 := by omega
 have P4_lo : W.heap.size ≤ g0 + 1 := by omega
 have HW := hide hW1
 have Hg := hide hg
 clear hW1 hg
 go_enter Try.func45, Try.ntmps45
 go_upto_region 1 with fail
 unfold z4m at HW
 rw [HW.out, Hg.out]
 clear HW Hg
 have cq1_0 := fun d os => (((P2).ext (ext_regrown W1 d os)).cell 2).trans (show (miR t c lo hi)[2]? = some (.int .i64 lo) from rfl)
 have cq1_1 := fun d os => (((P2).ext (ext_regrown W1 d os)).cell 3).trans (show (miR t c lo hi)[3]? = some (.int .i64 hi) from rfl)
 refine wp_region_quiet_below (by kernel_rfl) (by kernel_rfl) ?_
 repeat (first | go_big_quiet_step (fail) | quiet_step (fail))
 refine wpQuiet_nil ?_
 intro _ hw'
 obtain ⟨⟨dq, osq⟩, hw''⟩ := hw'
 subst hw''
 replace P2 := (P2).ext (ext_regrown W1 dq osq)
 replace P4 := (P4).ext (ext_regrown W1 dq osq)
 replace EE := hide (EE.out.trans (ext_regrown W1 dq osq))
 obtain ⟨w2, hzq1⟩ : ∃ w, grow (redrawn W1 dq) osq = w := ⟨_, rfl⟩
 rw [hzq1] at EE P2 P4 ⊢
 clear hzq1 cq1_0 cq1_1
 go_upto_region 2 with fail
 have cq3_0 := fun d os => (((P2).ext (ext_regrown w2 d os)).cell 1).trans (show (miR t c lo hi)[1]? = some (.int .i64 c) from rfl)
 have cq3_1 := fun d os => (((P2).ext (ext_regrown w2 d os)).cell 0).trans (show (miR t c lo hi)[0]? = some (.int .i64 t) from rfl)
 refine wp_region_reads ?_
 repeat (first | go_big_quiet_step (first | with_reducible exact quiet_ret (kh.out _)) | quiet_step (first | with_reducible exact quiet_ret (kh.out _)))
 refine wpQuiet_nil ?_
 intro _ hw'
 obtain ⟨⟨dq, osq⟩, hw''⟩ := hw'
 subst hw''
 replace P2 := (P2).ext (ext_regrown w2 dq osq)
 replace P4 := (P4).ext (ext_regrown w2 dq osq)
 replace EE := hide (EE.out.trans (ext_regrown w2 dq osq))
 obtain ⟨w4, hzq3⟩ : ∃ w, grow (redrawn w2 dq) osq = w := ⟨_, rfl⟩
 rw [hzq3] at EE P2 P4 ⊢
 clear hzq3 cq3_0 cq3_1
 go_upto_region 3 with fail
 have P2_lt := P2.lt
 have P4_lt := P4.lt
 refine wp_evs [.q, .so 0, .q] [0, 0, 0] (fun R => [.agg z4m, undef, .bool false]) (fun _ => (.cells #[] 0 (0, 0))) (fun R _ => (.cells z4m 23 (0, 0))) (fun _ => g0 + 1) (XE W) (fun _ => False) (by kernel_rfl) (by kernel_rfl) (by kernel_rfl) rfl (fun _ => rfl) (fun _ h => h.elim) (fun _ _ h => h) (by intro c hc; simp at hc; (try subst hc); (try simp only); omega) (by intro c c' h1 h2 _; simp at h1 h2; omega) (fun R R' => ⟨fun _ => rfl, fun _ => rfl, fun _ => rfl, trivial⟩) (fun _ _ _ _ => rfl) xe_below EE.out ?ops7 ?end7
 case ops7 =>
   refine ⟨?_, ?_, ?_, trivial⟩
   · refine er_q ?vn5 ?hn5 ?kn5 ?gn5 ?_
     case hn5 => exact rfl
     case vn5 => exact (fun R => .agg z4m)
     case kn5 => exact (fun R => rfl)
     case gn5 => exact gd_none rfl
     intro R s w' hT hs hw ha
     generalize hA : putE _ _ _ _ _ _ _ = AA
     refine q_buildM (vs := #[]) rfl ?_ (b_mi0)
     subst hA
     kernel_rfl
   · refine er_so (c := 0) (Ty := ?Tn6) (p := ?pn6) (x := ?xn6) (g0 + 1) ?fn6 ?un6 ?vn6 ?hn6 ?on6 ?kn6 ?ln6 ?gn6 ?dn6 ?en6 ?_
     case hn6 => exact rfl
     case on6 => exact rfl
     case fn6 => exact (fun R => (.cells z4m 23 (0, 0)))
     case un6 => exact (fun R => .pointer (some ⟨g0 + 1, 0, none⟩))
     case vn6 => exact (fun R => .agg z4m)
     case kn6 => exact (fun R => rfl)
     case ln6 => exact rfl
     case gn6 => exact gd_none rfl
     case dn6 =>
       intro R
       kernel_rfl
     case en6 =>
       intro R
       kernel_rfl
     intro R s ρ w hT hs hp hx hz
     refine ⟨store_rowN (g := (g0 + 1)) rfl hp hx (hz.trans P4) iMid (rfl) (rfl) (z4m_one), fun w1 hF => ext_filled hT hF P4_lo⟩
   · refine er_q ?vn7 ?hn7 ?kn7 ?gn7 ?_
     case hn7 => exact rfl
     case vn7 => exact (fun R => .bool false)
     case kn7 => exact (fun R => rfl)
     case gn7 => exact gd_none rfl
     intro R s w' hT hs hw ha
     go_simp
 case end7 =>
  intro sI R G w8 hI
  have hS := hI.same
  have hTT := hI.holds
  have hz0 := EE.out.size
  replace P2 := P2.sameE hS (fun h => h) (by intro c hc; simp at hc; (try subst hc); (try simp only); omega)
  replace P4 : Blk w8 (g0 + 1) 23 z4m := hI.olds' 1 (List.mem_range.2 (show 1 < 3 by decide)) 0 rfl
  replace EE := hide (show Ext _ _ from hTT)
  clear hS hz0 hTT hI P2_lt P4_lt
  generalize hF : putE _ _ _ _ _ _ _ = FF
  have hF2 : FF = { tmps := #[.agg (miR t c lo hi), .int .i64 v, .pointer (some ⟨g0, 0, none⟩), undef, .pointer (some ⟨g0 + 1, 0, none⟩), .bool false, .int .i64 (min lo v), .int .i64 (max hi v), .pointer (some ⟨g0, 2, none⟩), .int .i64 lo, .int .i64 v, .int .i64 (min lo v), .pointer (some ⟨g0, 3, none⟩), .int .i64 hi, .int .i64 v, .int .i64 (max hi v), .pointer (some ⟨g0, 1, none⟩), .int .i64 c, .bool false, .bool false, .int .i64 (min lo v), .int .i64 (max hi v), .pointer (some ⟨g0, 0, none⟩), .int .i64 t, .bool false, .bool true, .bool true, .agg z4m, undef, undef, undef, undef, undef, undef, undef, undef], defers := [] } := by subst hF; kernel_rfl
  clear hF
  subst hF2
  go_wp2_with fail
  exact bodyPost_ret (res2 (p := 4) (u := 5) (ty := 23) rfl _ _ _ 23 z4m _ rfl P4 uMid rfl iMid) rfl ⟨by kernel_rfl, EE.out⟩
set_option maxHeartbeats 3200000 in
set_option maxRecDepth 100000 in
theorem p_extY (t c lo hi v : Int) (W : World) (d0 : (c == 0) = false) (wr : IntKind.i64.wrap (c + 1) = c + 1) (kh : Hid (∀ w, Calls Try.prog 42 #[.int .i64 (min lo v), .int .i64 (max hi v), .int .i64 t] w (Ret (.bool true) w))) : Calls Try.prog 45 #[.agg (miR t c lo hi), .int .i64 v] W (Ret (.tuple #[.agg (miR t (c + 1) (min lo v) (max hi v)), .bool true]) W) := by
 have P2 := (Blk.new W 23 (miR t c lo hi)).alloc (.cells z4m 23)
 have P4 := Blk.new (W.alloc (.cells (miR t c lo hi) 23)) 23 z4m
 rw [alloc_size] at P4
 have EE := hide ((ext_alloc W (.cells (miR t c lo hi) 23)).trans (ext_alloc _ (.cells z4m 23)))
 obtain ⟨W1, hW1⟩ : ∃ W1, ((W.alloc (.cells (miR t c lo hi) 23)).alloc (.cells z4m 23)) = W1 := ⟨_, rfl⟩
 obtain ⟨g0, hg⟩ : ∃ g, W.heap.size = g := ⟨_, rfl⟩
 rw [hW1] at P2 P4 EE
 rw [hg] at P2 P4
 have P2_lo : W.heap.size ≤ g0 := by omega
 have P4_lo : W.heap.size ≤ g0 + 1 := by omega
 have HW := hide hW1
 have Hg := hide hg
 clear hW1 hg
 go_enter Try.func45, Try.ntmps45
 go_upto_region 1 with fail
 unfold z4m at HW
 rw [HW.out, Hg.out]
 clear HW Hg
 have cq1_0 := fun d os => (((P2).ext (ext_regrown W1 d os)).cell 2).trans (show (miR t c lo hi)[2]? = some (.int .i64 lo) from rfl)
 have cq1_1 := fun d os => (((P2).ext (ext_regrown W1 d os)).cell 3).trans (show (miR t c lo hi)[3]? = some (.int .i64 hi) from rfl)
 refine wp_region_quiet_below (by kernel_rfl) (by kernel_rfl) ?_
 repeat (first | go_big_quiet_step (fail) | quiet_step (fail))
 refine wpQuiet_nil ?_
 intro _ hw'
 obtain ⟨⟨dq, osq⟩, hw''⟩ := hw'
 subst hw''
 replace P2 := (P2).ext (ext_regrown W1 dq osq)
 replace P4 := (P4).ext (ext_regrown W1 dq osq)
 replace EE := hide (EE.out.trans (ext_regrown W1 dq osq))
 obtain ⟨w2, hzq1⟩ : ∃ w, grow (redrawn W1 dq) osq = w := ⟨_, rfl⟩
 rw [hzq1] at EE P2 P4 ⊢
 clear hzq1 cq1_0 cq1_1
 go_upto_region 2 with fail
 have cq3_0 := fun d os => (((P2).ext (ext_regrown w2 d os)).cell 1).trans (show (miR t c lo hi)[1]? = some (.int .i64 c) from rfl)
 have cq3_1 := fun d os => (((P2).ext (ext_regrown w2 d os)).cell 0).trans (show (miR t c lo hi)[0]? = some (.int .i64 t) from rfl)
 refine wp_region_reads ?_
 repeat (first | go_big_quiet_step (first | with_reducible exact quiet_ret (kh.out _)) | quiet_step (first | with_reducible exact quiet_ret (kh.out _)))
 refine wpQuiet_nil ?_
 intro _ hw'
 obtain ⟨⟨dq, osq⟩, hw''⟩ := hw'
 subst hw''
 replace P2 := (P2).ext (ext_regrown w2 dq osq)
 replace P4 := (P4).ext (ext_regrown w2 dq osq)
 replace EE := hide (EE.out.trans (ext_regrown w2 dq osq))
 obtain ⟨w4, hzq3⟩ : ∃ w, grow (redrawn w2 dq) osq = w := ⟨_, rfl⟩
 rw [hzq3] at EE P2 P4 ⊢
 clear hzq3 cq3_0 cq3_1
 go_upto_region 4 with fail
 have P2_lt := P2.lt
 have P4_lt := P4.lt
 refine wp_evs [.q, .q, .q, .q, .q, .q, .q, .q, .so 0, .q] [0, 0, 0, 0, 0, 0, 0, 0, 0, 0] (fun R => [.pointer (some ⟨g0, 0, none⟩), .int .i64 t, .pointer (some ⟨g0, 1, none⟩), .int .i64 c, .int .i64 (c + 1), .int .i64 (min lo v), .int .i64 (max hi v), .agg (miR t (c + 1) (min lo v) (max hi v)), undef, .bool true]) (fun _ => (.cells #[] 0 (0, 0))) (fun R _ => (.cells (miR t (c + 1) (min lo v) (max hi v)) 23 (0, 0))) (fun _ => g0 + 1) (XE W) (fun _ => False) (by kernel_rfl) (by kernel_rfl) (by kernel_rfl) rfl (fun _ => rfl) (fun _ h => h.elim) (fun _ _ h => h) (by intro c hc; simp at hc; (try subst hc); (try simp only); omega) (by intro c c' h1 h2 _; simp at h1 h2; omega) (fun R R' => ⟨fun _ => rfl, fun _ => rfl, fun _ => rfl, fun _ => rfl, fun _ => rfl, fun _ => rfl, fun _ => rfl, fun _ => rfl, fun _ => rfl, fun _ => rfl, trivial⟩) (fun _ _ _ _ => rfl) xe_below EE.out ?ops14 ?end14
 case ops14 =>
   refine ⟨?_, ?_, ?_, ?_, ?_, ?_, ?_, ?_, ?_, ?_, trivial⟩
   · refine er_q ?vn5 ?hn5 ?kn5 ?gn5 ?_
     case hn5 => exact rfl
     case vn5 => exact (fun R => .pointer (some ⟨g0, 0, none⟩))
     case kn5 => exact (fun R => rfl)
     case gn5 => exact gd_none rfl
     intro R s w' hT hs hw ha
     go_simp
   · refine er_q ?vn6 ?hn6 ?kn6 ?gn6 ?_
     case hn6 => exact rfl
     case vn6 => exact (fun R => .int .i64 t)
     case kn6 => exact (fun R => rfl)
     case gn6 => exact gd_none rfl
     intro R s w' hT hs hw ha
     have cc := ((show Blk w' g0 _ (miR t c lo hi) from P2.sameE hw (fun h => h) (by intro c hc; simp at hc; (try subst hc); (try simp only); omega)).cell 0).trans (show (miR t c lo hi)[0]? = some (.int .i64 t) from rfl)
     go_simp
   · refine er_q ?vn7 ?hn7 ?kn7 ?gn7 ?_
     case hn7 => exact rfl
     case vn7 => exact (fun R => .pointer (some ⟨g0, 1, none⟩))
     case kn7 => exact (fun R => rfl)
     case gn7 => exact gd_none rfl
     intro R s w' hT hs hw ha
     go_simp
   · refine er_q ?vn8 ?hn8 ?kn8 ?gn8 ?_
     case hn8 => exact rfl
     case vn8 => exact (fun R => .int .i64 c)
     case kn8 => exact (fun R => rfl)
     case gn8 => exact gd_none rfl
     intro R s w' hT hs hw ha
     have cc := ((show Blk w' g0 _ (miR t c lo hi) from P2.sameE hw (fun h => h) (by intro c hc; simp at hc; (try subst hc); (try simp only); omega)).cell 1).trans (show (miR t c lo hi)[1]? = some (.int .i64 c) from rfl)
     go_simp
   · refine er_q ?vn9 ?hn9 ?kn9 ?gn9 ?_
     case hn9 => exact rfl
     case vn9 => exact (fun R => .int .i64 (c + 1))
     case kn9 => exact (fun R => rfl)
     case gn9 => exact gd_none rfl
     intro R s w' hT hs hw ha
     go_simp
   · refine er_q ?vn10 ?hn10 ?kn10 ?gn10 ?_
     case hn10 => exact rfl
     case vn10 => exact (fun R => .int .i64 (min lo v))
     case kn10 => exact (fun R => rfl)
     case gn10 => exact gd_none rfl
     intro R s w' hT hs hw ha
     go_simp
   · refine er_q ?vn11 ?hn11 ?kn11 ?gn11 ?_
     case hn11 => exact rfl
     case vn11 => exact (fun R => .int .i64 (max hi v))
     case kn11 => exact (fun R => rfl)
     case gn11 => exact gd_none rfl
     intro R s w' hT hs hw ha
     go_simp
   · refine er_q ?vn12 ?hn12 ?kn12 ?gn12 ?_
     case hn12 => exact rfl
     case vn12 => exact (fun R => .agg (miR t (c + 1) (min lo v) (max hi v)))
     case kn12 => exact (fun R => rfl)
     case gn12 => exact gd_none rfl
     intro R s w' hT hs hw ha
     generalize hA : putE _ _ _ _ _ _ _ = AA
     refine q_buildM (vs := #[(0, .int .i64 t), (1, .int .i64 (c + 1)), (2, .int .i64 (min lo v)), (3, .int .i64 (max hi v))]) rfl ?_ (b_mi4 t (c + 1) (min lo v) (max hi v))
     subst hA
     kernel_rfl
   · refine er_so (c := 0) (Ty := ?Tn13) (p := ?pn13) (x := ?xn13) (g0 + 1) ?fn13 ?un13 ?vn13 ?hn13 ?on13 ?kn13 ?ln13 ?gn13 ?dn13 ?en13 ?_
     case hn13 => exact rfl
     case on13 => exact rfl
     case fn13 => exact (fun R => (.cells (miR t (c + 1) (min lo v) (max hi v)) 23 (0, 0)))
     case un13 => exact (fun R => .pointer (some ⟨g0 + 1, 0, none⟩))
     case vn13 => exact (fun R => .agg (miR t (c + 1) (min lo v) (max hi v)))
     case kn13 => exact (fun R => rfl)
     case ln13 => exact rfl
     case gn13 => exact gd_none rfl
     case dn13 =>
       intro R
       kernel_rfl
     case en13 =>
       intro R
       kernel_rfl
     intro R s ρ w hT hs hp hx hz
     refine ⟨store_rowN (g := (g0 + 1)) rfl hp hx (hz.trans P4) iMid (rfl) (rfl) (miR_one _ _ _ _), fun w1 hF => ext_filled hT hF P4_lo⟩
   · refine er_q ?vn14 ?hn14 ?kn14 ?gn14 ?_
     case hn14 => exact rfl
     case vn14 => exact (fun R => .bool true)
     case kn14 => exact (fun R => rfl)
     case gn14 => exact gd_none rfl
     intro R s w' hT hs hw ha
     go_simp
 case end14 =>
  intro sI R G w15 hI
  have hS := hI.same
  have hTT := hI.holds
  have hz0 := EE.out.size
  replace P2 := P2.sameE hS (fun h => h) (by intro c hc; simp at hc; (try subst hc); (try simp only); omega)
  replace P4 : Blk w15 (g0 + 1) 23 (miR t (c + 1) (min lo v) (max hi v)) := hI.olds' 8 (List.mem_range.2 (show 8 < 10 by decide)) 0 rfl
  replace EE := hide (show Ext _ _ from hTT)
  clear hS hz0 hTT hI P2_lt P4_lt
  generalize hF : putE _ _ _ _ _ _ _ = FF
  have hF2 : FF = { tmps := #[.agg (miR t c lo hi), .int .i64 v, .pointer (some ⟨g0, 0, none⟩), undef, .pointer (some ⟨g0 + 1, 0, none⟩), .bool true, .int .i64 (min lo v), .int .i64 (max hi v), .pointer (some ⟨g0, 2, none⟩), .int .i64 lo, .int .i64 v, .int .i64 (min lo v), .pointer (some ⟨g0, 3, none⟩), .int .i64 hi, .int .i64 v, .int .i64 (max hi v), .pointer (some ⟨g0, 1, none⟩), .int .i64 c, .bool false, .bool false, .int .i64 (min lo v), .int .i64 (max hi v), .pointer (some ⟨g0, 0, none⟩), .int .i64 t, .bool true, .bool false, .bool false, undef, .pointer (some ⟨g0, 0, none⟩), .int .i64 t, .pointer (some ⟨g0, 1, none⟩), .int .i64 c, .int .i64 (c + 1), .int .i64 (min lo v), .int .i64 (max hi v), .agg (miR t (c + 1) (min lo v) (max hi v))], defers := [] } := by subst hF; kernel_rfl
  clear hF
  subst hF2
  go_wp2_with fail
  exact bodyPost_ret (res2 (p := 4) (u := 5) (ty := 23) rfl _ _ _ 23 (miR t (c + 1) (min lo v) (max hi v)) _ rfl P4 uMid rfl iMid) rfl ⟨by kernel_rfl, EE.out⟩
set_option maxHeartbeats 3200000 in
set_option maxRecDepth 100000 in
theorem r_stepI (t c lo hi v : Int) (W : World) (kv : Hid (∀ w, Calls Try.prog 33 #[.agg (miR t c lo hi)] w (Ret (.bool false) w))) : Calls Try.prog 25 #[.agg (miR t c lo hi), .int .i64 v] W (Ret (.tuple #[.agg z4m, .slice none 0 0, .int .i64 1]) W) := by
 have P2 := (Blk.new W 23 (miR t c lo hi)).alloc (.cells z4m 23)
 have P4 := Blk.new (W.alloc (.cells (miR t c lo hi) 23)) 23 z4m
 rw [alloc_size] at P4
 have EE := hide ((ext_alloc W (.cells (miR t c lo hi) 23)).trans (ext_alloc _ (.cells z4m 23)))
 obtain ⟨W1, hW1⟩ : ∃ W1, ((W.alloc (.cells (miR t c lo hi) 23)).alloc (.cells z4m 23)) = W1 := ⟨_, rfl⟩
 obtain ⟨g0, hg⟩ : ∃ g, W.heap.size = g := ⟨_, rfl⟩
 rw [hW1] at P2 P4 EE
 rw [hg] at P2 P4
 have P2_lo : W.heap.size ≤ g0 := by omega
 have P4_lo : W.heap.size ≤ g0 + 1 := by omega
 have HW := hide hW1
 have Hg := hide hg
 clear hW1 hg
 go_enter Try.func25, Try.ntmps25
 go_upto_region 1 with fail
 unfold z4m at HW
 rw [HW.out, Hg.out]
 clear HW Hg
 refine wp_region_reads ?_
 repeat (first | go_big_quiet_step (first | with_reducible exact quiet_ret (kv.out _)) | (refine wq_load (by kernel_rfl) rfl rfl (fun w hw => by obtain ⟨⟨d, os⟩, rfl⟩ := hw; exact ld_all ((P2).ext (ext_regrown W1 d os)) uMid rfl iMid rfl) ?_) | quiet_step (first | with_reducible exact quiet_ret (kv.out _)))
 refine wpQuiet_nil ?_
 intro _ hw'
 obtain ⟨⟨dq, osq⟩, hw''⟩ := hw'
 subst hw''
 replace P2 := (P2).ext (ext_regrown W1 dq osq)
 replace P4 := (P4).ext (ext_regrown W1 dq osq)
 replace EE := hide (EE.out.trans (ext_regrown W1 dq osq))
 obtain ⟨w2, hzq1⟩ : ∃ w, grow (redrawn W1 dq) osq = w := ⟨_, rfl⟩
 rw [hzq1] at EE P2 P4 ⊢
 clear hzq1
 go_upto_region 2 with fail
 have P2_lt := P2.lt
 have P4_lt := P4.lt
 refine wp_evs [.q, .so 0, .q, .q] [0, 0, 0, 0] (fun R => [.agg z4m, undef, .slice none 0 0, .int .i64 1]) (fun _ => (.cells #[] 0 (0, 0))) (fun R _ => (.cells z4m 23 (0, 0))) (fun _ => g0 + 1) (XE W) (fun _ => False) (by kernel_rfl) (by kernel_rfl) (by kernel_rfl) rfl (fun _ => rfl) (fun _ h => h.elim) (fun _ _ h => h) (by intro c hc; simp at hc; (try subst hc); (try simp only); omega) (by intro c c' h1 h2 _; simp at h1 h2; omega) (fun R R' => ⟨fun _ => rfl, fun _ => rfl, fun _ => rfl, fun _ => rfl, trivial⟩) (fun _ _ _ _ => rfl) xe_below EE.out ?ops6 ?end6
 case ops6 =>
   refine ⟨?_, ?_, ?_, ?_, trivial⟩
   · refine er_q ?vn3 ?hn3 ?kn3 ?gn3 ?_
     case hn3 => exact rfl
     case vn3 => exact (fun R => .agg z4m)
     case kn3 => exact (fun R => rfl)
     case gn3 => exact gd_none rfl
     intro R s w' hT hs hw ha
     generalize hA : putE _ _ _ _ _ _ _ = AA
     refine q_buildM (vs := #[]) rfl ?_ (b_mi0)
     subst hA
     kernel_rfl
   · refine er_so (c := 0) (Ty := ?Tn4) (p := ?pn4) (x := ?xn4) (g0 + 1) ?fn4 ?un4 ?vn4 ?hn4 ?on4 ?kn4 ?ln4 ?gn4 ?dn4 ?en4 ?_
     case hn4 => exact rfl
     case on4 => exact rfl
     case fn4 => exact (fun R => (.cells z4m 23 (0, 0)))
     case un4 => exact (fun R => .pointer (some ⟨g0 + 1, 0, none⟩))
     case vn4 => exact (fun R => .agg z4m)
     case kn4 => exact (fun R => rfl)
     case ln4 => exact rfl
     case gn4 => exact gd_none rfl
     case dn4 =>
       intro R
       kernel_rfl
     case en4 =>
       intro R
       kernel_rfl
     intro R s ρ w hT hs hp hx hz
     refine ⟨store_rowN (g := (g0 + 1)) rfl hp hx (hz.trans P4) iMid (rfl) (rfl) (z4m_one), fun w1 hF => ext_filled hT hF P4_lo⟩
   · refine er_q ?vn5 ?hn5 ?kn5 ?gn5 ?_
     case hn5 => exact rfl
     case vn5 => exact (fun R => .slice none 0 0)
     case kn5 => exact (fun R => rfl)
     case gn5 => exact gd_none rfl
     intro R s w' hT hs hw ha
     go_simp
   · refine er_q ?vn6 ?hn6 ?kn6 ?gn6 ?_
     case hn6 => exact rfl
     case vn6 => exact (fun R => .int .i64 1)
     case kn6 => exact (fun R => rfl)
     case gn6 => exact gd_none rfl
     intro R s w' hT hs hw ha
     go_simp
 case end6 =>
  intro sI R G w7 hI
  have hS := hI.same
  have hTT := hI.holds
  have hz0 := EE.out.size
  replace P2 := P2.sameE hS (fun h => h) (by intro c hc; simp at hc; (try subst hc); (try simp only); omega)
  replace P4 : Blk w7 (g0 + 1) 23 z4m := hI.olds' 1 (List.mem_range.2 (show 1 < 4 by decide)) 0 rfl
  replace EE := hide (show Ext _ _ from hTT)
  clear hS hz0 hTT hI P2_lt P4_lt
  generalize hF : putE _ _ _ _ _ _ _ = FF
  have hF2 : FF = { tmps := #[.agg (miR t c lo hi), .int .i64 v, .pointer (some ⟨g0, 0, none⟩), undef, .pointer (some ⟨g0 + 1, 0, none⟩), .slice none 0 0, .int .i64 1, undef, undef, undef, .agg (miR t c lo hi), .bool false, .bool true, .agg z4m, undef, undef, undef, undef, undef, undef, undef, undef, undef, undef, undef, undef, undef, undef, undef, undef, undef, undef, undef, undef, undef, undef, undef, undef, undef, undef, undef, undef, undef, undef, undef, undef, undef, undef, undef, undef, undef], defers := [] } := by subst hF; kernel_rfl
  clear hF
  subst hF2
  go_wp2_with fail
  exact bodyPost_ret (res3 (p := 4) (u := 5) (u2 := 6) (ty := 23) rfl _ _ _ 23 z4m _ rfl P4 uMid rfl iMid) rfl ⟨by kernel_rfl, EE.out⟩
set_option maxHeartbeats 3200000 in
set_option maxRecDepth 100000 in
theorem r_stepL (t c lo hi v : Int) (W : World) (kv : Hid (∀ w, Calls Try.prog 33 #[.agg (miR t c lo hi)] w (Ret (.bool true) w))) (d1 : (c == 1073741824) = true) : Calls Try.prog 25 #[.agg (miR t c lo hi), .int .i64 v] W (Ret (.tuple #[.agg z4m, .slice none 0 0, .int .i64 3]) W) := by
 have P2 := (Blk.new W 23 (miR t c lo hi)).alloc (.cells z4m 23)
 have P4 := Blk.new (W.alloc (.cells (miR t c lo hi) 23)) 23 z4m
 rw [alloc_size] at P4
 have EE := hide ((ext_alloc W (.cells (miR t c lo hi) 23)).trans (ext_alloc _ (.cells z4m 23)))
 obtain ⟨W1, hW1⟩ : ∃ W1, ((W.alloc (.cells (miR t c lo hi) 23)).alloc (.cells z4m 23)) = W1 := ⟨_, rfl⟩
 obtain ⟨g0, hg⟩ : ∃ g, W.heap.size = g := ⟨_, rfl⟩
 rw [hW1] at P2 P4 EE
 rw [hg] at P2 P4
 have P2_lo : W.heap.size ≤ g0 := by omega
 have P4_lo : W.heap.size ≤ g0 + 1 := by omega
 have HW := hide hW1
 have Hg := hide hg
 clear hW1 hg
 go_enter Try.func25, Try.ntmps25
 go_upto_region 1 with fail
 unfold z4m at HW
 rw [HW.out, Hg.out]
 clear HW Hg
 refine wp_region_reads ?_
 repeat (first | go_big_quiet_step (first | with_reducible exact quiet_ret (kv.out _)) | (refine wq_load (by kernel_rfl) rfl rfl (fun w hw => by obtain ⟨⟨d, os⟩, rfl⟩ := hw; exact ld_all ((P2).ext (ext_regrown W1 d os)) uMid rfl iMid rfl) ?_) | quiet_step (first | with_reducible exact quiet_ret (kv.out _)))
 refine wpQuiet_nil ?_
 intro _ hw'
 obtain ⟨⟨dq, osq⟩, hw''⟩ := hw'
 subst hw''
 replace P2 := (P2).ext (ext_regrown W1 dq osq)
 replace P4 := (P4).ext (ext_regrown W1 dq osq)
 replace EE := hide (EE.out.trans (ext_regrown W1 dq osq))
 obtain ⟨w2, hzq1⟩ : ∃ w, grow (redrawn W1 dq) osq = w := ⟨_, rfl⟩
 rw [hzq1] at EE P2 P4 ⊢
 clear hzq1
 go_upto_region 3 with fail
 have cq3_0 := fun d os => (((P2).ext (ext_regrown w2 d os)).cell 1).trans (show (miR t c lo hi)[1]? = some (.int .i64 c) from rfl)
 refine wp_region_reads ?_
 repeat (first | go_big_quiet_step (fail) | quiet_step (fail))
 refine wpQuiet_nil ?_
 intro _ hw'
 obtain ⟨⟨dq, osq⟩, hw''⟩ := hw'
 subst hw''
 replace P2 := (P2).ext (ext_regrown w2 dq osq)
 replace P4 := (P4).ext (ext_regrown w2 dq osq)
 replace EE := hide (EE.out.trans (ext_regrown w2 dq osq))
 obtain ⟨w4, hzq3⟩ : ∃ w, grow (redrawn w2 dq) osq = w := ⟨_, rfl⟩
 rw [hzq3] at EE P2 P4 ⊢
 clear hzq3 cq3_0
 go_upto_region 4 with fail
 have P2_lt := P2.lt
 have P4_lt := P4.lt
 refine wp_evs [.q, .so 0, .q, .q] [0, 0, 0, 0] (fun R => [.agg z4m, undef, .slice none 0 0, .int .i64 3]) (fun _ => (.cells #[] 0 (0, 0))) (fun R _ => (.cells z4m 23 (0, 0))) (fun _ => g0 + 1) (XE W) (fun _ => False) (by kernel_rfl) (by kernel_rfl) (by kernel_rfl) rfl (fun _ => rfl) (fun _ h => h.elim) (fun _ _ h => h) (by intro c hc; simp at hc; (try subst hc); (try simp only); omega) (by intro c c' h1 h2 _; simp at h1 h2; omega) (fun R R' => ⟨fun _ => rfl, fun _ => rfl, fun _ => rfl, fun _ => rfl, trivial⟩) (fun _ _ _ _ => rfl) xe_below EE.out ?ops8 ?end8
 case ops8 =>
   refine ⟨?_, ?_, ?_, ?_, trivial⟩
   · refine er_q ?vn5 ?hn5 ?kn5 ?gn5 ?_
     case hn5 => exact rfl
     case vn5 => exact (fun R => .agg z4m)
     case kn5 => exact (fun R => rfl)
     case gn5 => exact gd_none rfl
     intro R s w' hT hs hw ha
     generalize hA : putE _ _ _ _ _ _ _ = AA
     refine q_buildM (vs := #[]) rfl ?_ (b_mi0)
     subst hA
     kernel_rfl
   · refine er_so (c := 0) (Ty := ?Tn6) (p := ?pn6) (x := ?xn6) (g0 + 1) ?fn6 ?un6 ?vn6 ?hn6 ?on6 ?kn6 ?ln6 ?gn6 ?dn6 ?en6 ?_
     case hn6 => exact rfl
     case on6 => exact rfl
     case fn6 => exact (fun R => (.cells z4m 23 (0, 0)))
     case un6 => exact (fun R => .pointer (some ⟨g0 + 1, 0, none⟩))
     case vn6 => exact (fun R => .agg z4m)
     case kn6 => exact (fun R => rfl)
     case ln6 => exact rfl
     case gn6 => exact gd_none rfl
     case dn6 =>
       intro R
       kernel_rfl
     case en6 =>
       intro R
       kernel_rfl
     intro R s ρ w hT hs hp hx hz
     refine ⟨store_rowN (g := (g0 + 1)) rfl hp hx (hz.trans P4) iMid (rfl) (rfl) (z4m_one), fun w1 hF => ext_filled hT hF P4_lo⟩
   · refine er_q ?vn7 ?hn7 ?kn7 ?gn7 ?_
     case hn7 => exact rfl
     case vn7 => exact (fun R => .slice none 0 0)
     case kn7 => exact (fun R => rfl)
     case gn7 => exact gd_none rfl
     intro R s w' hT hs hw ha
     go_simp
   · refine er_q ?vn8 ?hn8 ?kn8 ?gn8 ?_
     case hn8 => exact rfl
     case vn8 => exact (fun R => .int .i64 3)
     case kn8 => exact (fun R => rfl)
     case gn8 => exact gd_none rfl
     intro R s w' hT hs hw ha
     go_simp
 case end8 =>
  intro sI R G w9 hI
  have hS := hI.same
  have hTT := hI.holds
  have hz0 := EE.out.size
  replace P2 := P2.sameE hS (fun h => h) (by intro c hc; simp at hc; (try subst hc); (try simp only); omega)
  replace P4 : Blk w9 (g0 + 1) 23 z4m := hI.olds' 1 (List.mem_range.2 (show 1 < 4 by decide)) 0 rfl
  replace EE := hide (show Ext _ _ from hTT)
  clear hS hz0 hTT hI P2_lt P4_lt
  generalize hF : putE _ _ _ _ _ _ _ = FF
  have hF2 : FF = { tmps := #[.agg (miR t c lo hi), .int .i64 v, .pointer (some ⟨g0, 0, none⟩), undef, .pointer (some ⟨g0 + 1, 0, none⟩), .slice none 0 0, .int .i64 3, undef, undef, undef, .agg (miR t c lo hi), .bool true, .bool false, undef, .pointer (some ⟨g0, 1, none⟩), .int .i64 c, .bool true, .agg z4m, undef, undef, undef, undef, undef, undef, undef, undef, undef, undef, undef, undef, undef, undef, undef, undef, undef, undef, undef, undef, undef, undef, undef, undef, undef, undef, undef, undef, undef, undef, undef, undef, undef], defers := [] } := by subst hF; kernel_rfl
  clear hF
  subst hF2
  go_wp2_with fail
  exact bodyPost_ret (res3 (p := 4) (u := 5) (u2 := 6) (ty := 23) rfl _ _ _ 23 z4m _ rfl P4 uMid rfl iMid) rfl ⟨by kernel_rfl, EE.out⟩
set_option maxHeartbeats 3200000 in
set_option maxRecDepth 100000 in
theorem r_stepY (t c lo hi v : Int) (W : World) (kv : Hid (∀ w, Calls Try.prog 33 #[.agg (miR t c lo hi)] w (Ret (.bool true) w))) (d1 : (c == 1073741824) = false) (wr : IntKind.i64.wrap (c + 1) = c + 1) (d2 : decide (0 < c) = true) (kf : Hid (∀ w, Calls Try.prog 39 #[.agg (miR t (c + 1) (min lo v) (max hi v))] w (Ret (.bool true) w))) : Calls Try.prog 25 #[.agg (miR t c lo hi), .int .i64 v] W (Ret (.tuple #[.agg (miR t (c + 1) (min lo v) (max hi v)), .slice none 0 0, .int .i64 0]) W) := by
 have P2 := (Blk.new W 23 (miR t c lo hi)).alloc (.cells z4m 23)
 have P4 := Blk.new (W.alloc (.cells (miR t c lo hi) 23)) 23 z4m
 rw [alloc_size] at P4
 have EE := hide ((ext_alloc W (.cells (miR t c lo hi) 23)).trans (ext_alloc _ (.cells z4m 23)))
 obtain ⟨W1, hW1⟩ : ∃ W1, ((W.alloc (.cells (miR t c lo hi) 23)).alloc (.cells z4m 23)) = W1 := ⟨_, rfl⟩
 obtain ⟨g0, hg⟩ : ∃ g, W.heap.size = g := ⟨_, rfl⟩
 rw [hW1] at P2 P4 EE
 rw [hg] at P2 P4
 have P2_lo : W.heap.size ≤ g0 := by omega
 have P4_lo : W.heap.size ≤ g0 + 1 := by omega
 have HW := hide hW1
 have Hg := hide hg
 clear hW1 hg
 go_enter Try.func25, Try.ntmps25
 go_upto_region 1 with fail
 unfold z4m at HW
 rw [HW.out, Hg.out]
 clear HW Hg
 refine wp_region_reads ?_
 repeat (first | go_big_quiet_step (first | with_reducible exact quiet_ret (kv.out _)) | (refine wq_load (by kernel_rfl) rfl rfl (fun w hw => by obtain ⟨⟨d, os⟩, rfl⟩ := hw; exact ld_all ((P2).ext (ext_regrown W1 d os)) uMid rfl iMid rfl) ?_) | quiet_step (first | with_reducible exact quiet_ret (kv.out _)))
 refine wpQuiet_nil ?_
 intro _ hw'
 obtain ⟨⟨dq, osq⟩, hw''⟩ := hw'
 subst hw''
 replace P2 := (P2).ext (ext_regrown W1 dq osq)
 replace P4 := (P4).ext (ext_regrown W1 dq osq)
 replace EE := hide (EE.out.trans (ext_regrown W1 dq osq))
 obtain ⟨w2, hzq1⟩ : ∃ w, grow (redrawn W1 dq) osq = w := ⟨_, rfl⟩
 rw [hzq1] at EE P2 P4 ⊢
 clear hzq1
 go_upto_region 3 with fail
 have cq3_0 := fun d os => (((P2).ext (ext_regrown w2 d os)).cell 1).trans (show (miR t c lo hi)[1]? = some (.int .i64 c) from rfl)
 refine wp_region_reads ?_
 repeat (first | go_big_quiet_step (fail) | quiet_step (fail))
 refine wpQuiet_nil ?_
 intro _ hw'
 obtain ⟨⟨dq, osq⟩, hw''⟩ := hw'
 subst hw''
 replace P2 := (P2).ext (ext_regrown w2 dq osq)
 replace P4 := (P4).ext (ext_regrown w2 dq osq)
 replace EE := hide (EE.out.trans (ext_regrown w2 dq osq))
 obtain ⟨w4, hzq3⟩ : ∃ w, grow (redrawn w2 dq) osq = w := ⟨_, rfl⟩
 rw [hzq3] at EE P2 P4 ⊢
 clear hzq3 cq3_0
 go_upto_region 5 with fail
 have P2_lt := P2.lt
 have P4_lt := P4.lt
 refine wp_evs [.q, .q, .q, .q, .q, .q, .q, .q, .q, .q, .q, .q, .q, .q, .al, .st 14] [0, 0, 0, 0, 0, 0, 0, 0, 0, 0, 0, 0, 0, 0, 0, 0] (fun R => [.pointer (some ⟨g0, 0, none⟩), .int .i64 t, .pointer (some ⟨g0, 1, none⟩), .int .i64 c, .int .i64 (c + 1), .pointer (some ⟨g0, 2, none⟩), .int .i64 lo, .int .i64 v, .int .i64 (min lo v), .pointer (some ⟨g0, 3, none⟩), .int .i64 hi, .int .i64 v, .int .i64 (max hi v), .agg (miR t (c + 1) (min lo v) (max hi v)), undef, undef]) (fun _ => (.cells z4m 23 (0, 0))) (fun R _ => (.cells (miR t (c + 1) (min lo v) (max hi v)) 23 (0, 0))) (fun _ => 0) (XE W) (fun _ => False) (by kernel_rfl) (by kernel_rfl) (by kernel_rfl) rfl (fun _ => rfl) (fun _ h => h.elim) (fun _ _ h => h) (by simp) (by simp) (fun R R' => ⟨fun _ => rfl, fun _ => rfl, fun _ => rfl, fun _ => rfl, fun _ => rfl, fun _ => rfl, fun _ => rfl, fun _ => rfl, fun _ => rfl, fun _ => rfl, fun _ => rfl, fun _ => rfl, fun _ => rfl, fun _ => rfl, fun _ => rfl, fun _ => rfl, trivial⟩) (fun _ _ _ _ => rfl) xe_below EE.out ?ops20 ?end20
 case ops20 =>
   refine ⟨?_, ?_, ?_, ?_, ?_, ?_, ?_, ?_, ?_, ?_, ?_, ?_, ?_, ?_, ?_, ?_, trivial⟩
   · refine er_q ?vn5 ?hn5 ?kn5 ?gn5 ?_
     case hn5 => exact rfl
     case vn5 => exact (fun R => .pointer (some ⟨g0, 0, none⟩))
     case kn5 => exact (fun R => rfl)
     case gn5 => exact gd_none rfl
     intro R s w' hT hs hw ha
     go_simp
   · refine er_q ?vn6 ?hn6 ?kn6 ?gn6 ?_
     case hn6 => exact rfl
     case vn6 => exact (fun R => .int .i64 t)
     case kn6 => exact (fun R => rfl)
     case gn6 => exact gd_none rfl
     intro R s w' hT hs hw ha
     have cc := ((show Blk w' g0 _ (miR t c lo hi) from P2.sameE hw (fun h => h) (by simp)).cell 0).trans (show (miR t c lo hi)[0]? = some (.int .i64 t) from rfl)
     go_simp
   · refine er_q ?vn7 ?hn7 ?kn7 ?gn7 ?_
     case hn7 => exact rfl
     case vn7 => exact (fun R => .pointer (some ⟨g0, 1, none⟩))
     case kn7 => exact (fun R => rfl)
     case gn7 => exact gd_none rfl
     intro R s w' hT hs hw ha
     go_simp
   · refine er_q ?vn8 ?hn8 ?kn8 ?gn8 ?_
     case hn8 => exact rfl
     case vn8 => exact (fun R => .int .i64 c)
     case kn8 => exact (fun R => rfl)
     case gn8 => exact gd_none rfl
     intro R s w' hT hs hw ha
     have cc := ((show Blk w' g0 _ (miR t c lo hi) from P2.sameE hw (fun h => h) (by simp)).cell 1).trans (show (miR t c lo hi)[1]? = some (.int .i64 c) from rfl)
     go_simp
   · refine er_q ?vn9 ?hn9 ?kn9 ?gn9 ?_
     case hn9 => exact rfl
     case vn9 => exact (fun R => .int .i64 (c + 1))
     case kn9 => exact (fun R => rfl)
     case gn9 => exact gd_none rfl
     intro R s w' hT hs hw ha
     go_simp
   · refine er_q ?vn10 ?hn10 ?kn10 ?gn10 ?_
     case hn10 => exact rfl
     case vn10 => exact (fun R => .pointer (some ⟨g0, 2, none⟩))
     case kn10 => exact (fun R => rfl)
     case gn10 => exact gd_none rfl
     intro R s w' hT hs hw ha
     go_simp
   · refine er_q ?vn11 ?hn11 ?kn11 ?gn11 ?_
     case hn11 => exact rfl
     case vn11 => exact (fun R => .int .i64 lo)
     case kn11 => exact (fun R => rfl)
     case gn11 => exact gd_none rfl
     intro R s w' hT hs hw ha
     have cc := ((show Blk w' g0 _ (miR t c lo hi) from P2.sameE hw (fun h => h) (by simp)).cell 2).trans (show (miR t c lo hi)[2]? = some (.int .i64 lo) from rfl)
     go_simp
   · refine er_q ?vn12 ?hn12 ?kn12 ?gn12 ?_
     case hn12 => exact rfl
     case vn12 => exact (fun R => .int .i64 v)
     case kn12 => exact (fun R => rfl)
     case gn12 => exact gd_none rfl
     intro R s w' hT hs hw ha
     go_simp
   · refine er_q ?vn13 ?hn13 ?kn13 ?gn13 ?_
     case hn13 => exact rfl
     case vn13 => exact (fun R => .int .i64 (min lo v))
     case kn13 => exact (fun R => rfl)
     case gn13 => exact gd_none rfl
     intro R s w' hT hs hw ha
     go_simp
   · refine er_q ?vn14 ?hn14 ?kn14 ?gn14 ?_
     case hn14 => exact rfl
     case vn14 => exact (fun R => .pointer (some ⟨g0, 3, none⟩))
     case kn14 => exact (fun R => rfl)
     case gn14 => exact gd_none rfl
     intro R s w' hT hs hw ha
     go_simp
   · refine er_q ?vn15 ?hn15 ?kn15 ?gn15 ?_
     case hn15 => exact rfl
     case vn15 => exact (fun R => .int .i64 hi)
     case kn15 => exact (fun R => rfl)
     case gn15 => exact gd_none rfl
     intro R s w' hT hs hw ha
     have cc := ((show Blk w' g0 _ (miR t c lo hi) from P2.sameE hw (fun h => h) (by simp)).cell 3).trans (show (miR t c lo hi)[3]? = some (.int .i64 hi) from rfl)
     go_simp
   · refine er_q ?vn16 ?hn16 ?kn16 ?gn16 ?_
     case hn16 => exact rfl
     case vn16 => exact (fun R => .int .i64 v)
     case kn16 => exact (fun R => rfl)
     case gn16 => exact gd_none rfl
     intro R s w' hT hs hw ha
     go_simp
   · refine er_q ?vn17 ?hn17 ?kn17 ?gn17 ?_
     case hn17 => exact rfl
     case vn17 => exact (fun R => .int .i64 (max hi v))
     case kn17 => exact (fun R => rfl)
     case gn17 => exact gd_none rfl
     intro R s w' hT hs hw ha
     go_simp
   · refine er_q ?vn18 ?hn18 ?kn18 ?gn18 ?_
     case hn18 => exact rfl
     case vn18 => exact (fun R => .agg (miR t (c + 1) (min lo v) (max hi v)))
     case kn18 => exact (fun R => rfl)
     case gn18 => exact gd_none rfl
     intro R s w' hT hs hw ha
     generalize hA : putE _ _ _ _ _ _ _ = AA
     refine q_buildM (vs := #[(0, .int .i64 t), (1, .int .i64 (c + 1)), (2, .int .i64 (min lo v)), (3, .int .i64 (max hi v))]) rfl ?_ (b_mi4 t (c + 1) (min lo v) (max hi v))
     subst hA
     kernel_rfl
   · refine er_al ?zn19 ?hn19 ?kn19 ?gn19 ?_
     case zn19 => exact (.cells z4m 23 (0, 0))
     case hn19 => exact rfl
     case kn19 => exact rfl
     case gn19 => exact gd_none rfl
     intro ρ w'
     go_simp
     exact ⟨rfl, rfl⟩
   · refine er_st (j := 14) (Ty := ?Tn20) (p := ?pn20) (x := ?xn20) ?fn20 ?zn20 ?vn20 ?hn20 ?on20 ?kn20 ?ln20 ?gn20 ?en20 ?_
     case hn20 => exact rfl
     case on20 => exact rfl
     case fn20 => exact (fun R => (.cells (miR t (c + 1) (min lo v) (max hi v)) 23 (0, 0)))
     case zn20 => exact (.cells z4m 23 (0, 0))
     case vn20 => exact (fun R => .agg (miR t (c + 1) (min lo v) (max hi v)))
     case kn20 => exact (fun R => rfl)
     case ln20 => exact rfl
     case gn20 => exact gd_none rfl
     case en20 =>
       intro R
       kernel_rfl
     intro R s ρ w g hT hs hp hx hg hz
     exact ⟨store_row rfl hp hx hz iMid (rfl) (miR_one _ _ _ _), fun w1 hF => ext_filled hT hF (Nat.le_trans EE.out.size hg)⟩
 case end20 =>
  intro sI R G w21 hI
  have hS := hI.same
  have hTT := hI.holds
  have hz0 := EE.out.size
  replace P2 := P2.sameE hS (fun h => h) (by simp)
  replace P4 := P4.sameE hS (fun h => h) (by simp)
  have P7 : Blk w21 (G 14) 23 (miR t (c + 1) (min lo v) (max hi v)) := (hI.fulls 15 (List.mem_range.2 (show 15 < 16 by decide)) 14 rfl).2.2
  have hmP7 := (hI.made 14 (List.mem_range.2 (show 14 < 16 by decide)) rfl).1
  have P7_lo : W.heap.size ≤ G 14 := Nat.le_trans hz0 hmP7
  have ngP2_7 : g0 ≠ G 14 := by omega
  have ngP4_7 : g0 + 1 ≠ G 14 := by omega
  replace EE := hide (show Ext _ _ from hTT)
  clear hS hz0 hTT hI P2_lt P4_lt
  generalize hF : putE _ _ _ _ _ _ _ = FF
  have hF2 : FF = { tmps := #[.agg (miR t c lo hi), .int .i64 v, .pointer (some ⟨g0, 0, none⟩), undef, .pointer (some ⟨g0 + 1, 0, none⟩), .slice none 0 0, .int .i64 0, .pointer (some ⟨G 14, 0, none⟩), undef, undef, .agg (miR t c lo hi), .bool true, .bool false, undef, .pointer (some ⟨g0, 1, none⟩), .int .i64 c, .bool false, undef, .pointer (some ⟨g0, 0, none⟩), .int .i64 t, .pointer (some ⟨g0, 1, none⟩), .int .i64 c, .int .i64 (c + 1), .pointer (some ⟨g0, 2, none⟩), .int .i64 lo, .int .i64 v, .int .i64 (min lo v), .pointer (some ⟨g0, 3, none⟩), .int .i64 hi, .int .i64 v, .int .i64 (max hi v), .agg (miR t (c + 1) (min lo v) (max hi v)), undef, undef, undef, undef, undef, undef, undef, undef, undef, undef, undef, undef, undef, undef, undef, undef, undef, undef, undef], defers := [] } := by subst hF; kernel_rfl
  clear hF
  subst hF2
  generalize G 14 = g7 at *
  go_upto_region 6 with fail
  have cq22_0 := fun d os => (((P2).ext (ext_regrown w21 d os)).cell 1).trans (show (miR t c lo hi)[1]? = some (.int .i64 c) from rfl)
  refine wp_region_reads ?_
  repeat (first | go_big_quiet_step (first | with_reducible exact quiet_ret (kf.out _)) | (refine wq_load (by kernel_rfl) rfl rfl (fun w hw => by obtain ⟨⟨d, os⟩, rfl⟩ := hw; exact ld_all ((P7).ext (ext_regrown w21 d os)) uMid rfl iMid rfl) ?_) | quiet_step (first | with_reducible exact quiet_ret (kf.out _)))
  refine wpQuiet_nil ?_
  intro _ hw'
  obtain ⟨⟨dq, osq⟩, hw''⟩ := hw'
  subst hw''
  replace P2 := (P2).ext (ext_regrown w21 dq osq)
  replace P4 := (P4).ext (ext_regrown w21 dq osq)
  replace P7 := (P7).ext (ext_regrown w21 dq osq)
  replace EE := hide (EE.out.trans (ext_regrown w21 dq osq))
  obtain ⟨w23, hzq22⟩ : ∃ w, grow (redrawn w21 dq) osq = w := ⟨_, rfl⟩
  rw [hzq22] at EE P2 P4 P7 ⊢
  clear hzq22 cq22_0
  go_upto_region 7 with fail
  have P2_lt := P2.lt
  have P4_lt := P4.lt
  have P7_lt := P7.lt
  refine wp_evs [.q, .so 0, .q, .q] [0, 0, 0, 0] (fun R => [.agg (miR t (c + 1) (min lo v) (max hi v)), undef, .slice none 0 0, .int .i64 0]) (fun _ => (.cells #[] 0 (0, 0))) (fun R _ => (.cells (miR t (c + 1) (min lo v) (max hi v)) 23 (0, 0))) (fun _ => g0 + 1) (XE W) (fun _ => False) (by kernel_rfl) (by kernel_rfl) (by kernel_rfl) rfl (fun _ => rfl) (fun _ h => h.elim) (fun _ _ h => h) (by intro c hc; simp at hc; (try subst hc); (try simp only); omega) (by intro c c' h1 h2 _; simp at h1 h2; omega) (fun R R' => ⟨fun _ => rfl, fun _ => rfl, fun _ => rfl, fun _ => rfl, trivial⟩) (fun _ _ _ _ => rfl) xe_below EE.out ?ops27 ?end27
  case ops27 =>
    refine ⟨?_, ?_, ?_, ?_, trivial⟩
    · refine er_q ?vn24 ?hn24 ?kn24 ?gn24 ?_
      case hn24 => exact rfl
      case vn24 => exact (fun R => .agg (miR t (c + 1) (min lo v) (max hi v)))
      case kn24 => exact (fun R => rfl)
      case gn24 => exact gd_none rfl
      intro R s w' hT hs hw ha
      have L := ld_all (P7.sameE hw (fun h => h) (by intro c hc; simp at hc; (try subst hc); (try simp only); omega)) uMid rfl iMid rfl
      generalize hA : putE _ _ _ _ _ _ _ = AA
      refine q_load rfl ?_ L
      subst hA
      kernel_rfl
    · refine er_so (c := 0) (Ty := ?Tn25) (p := ?pn25) (x := ?xn25) (g0 + 1) ?fn25 ?un25 ?vn25 ?hn25 ?on25 ?kn25 ?ln25 ?gn25 ?dn25 ?en25 ?_
      case hn25 => exact rfl
      case on25 => exact rfl
      case fn25 => exact (fun R => (.cells (miR t (c + 1) (min lo v) (max hi v)) 23 (0, 0)))
      case un25 => exact (fun R => .pointer (some ⟨g0 + 1, 0, none⟩))
      case vn25 => exact (fun R => .agg (miR t (c + 1) (min lo v) (max hi v)))
      case kn25 => exact (fun R => rfl)
      case ln25 => exact rfl
      case gn25 => exact gd_none rfl
      case dn25 =>
        intro R
        kernel_rfl
      case en25 =>
        intro R
        kernel_rfl
      intro R s ρ w hT hs hp hx hz
      refine ⟨store_rowN (g := (g0 + 1)) rfl hp hx (hz.trans P4) iMid (rfl) (rfl) (miR_one _ _ _ _), fun w1 hF => ext_filled hT hF P4_lo⟩
    · refine er_q ?vn26 ?hn26 ?kn26 ?gn26 ?_
      case hn26 => exact rfl
      case vn26 => exact (fun R => .slice none 0 0)
      case kn26 => exact (fun R => rfl)
      case gn26 => exact gd_none rfl
      intro R s w' hT hs hw ha
      go_simp
    · refine er_q ?vn27 ?hn27 ?kn27 ?gn27 ?_
      case hn27 => exact rfl
      case vn27 => exact (fun R => .int .i64 0)
      case kn27 => exact (fun R => rfl)
      case gn27 => exact gd_none rfl
      intro R s w' hT hs hw ha
      go_simp
  case end27 =>
   intro sI R G w28 hI
   have hS := hI.same
   have hTT := hI.holds
   have hz0 := EE.out.size
   replace P2 := P2.sameE hS (fun h => h) (by intro c hc; simp at hc; (try subst hc); (try simp only); omega)
   replace P7 := P7.sameE hS (fun h => h) (by intro c hc; simp at hc; (try subst hc); (try simp only); omega)
   replace P4 : Blk w28 (g0 + 1) 23 (miR t (c + 1) (min lo v) (max hi v)) := hI.olds' 1 (List.mem_range.2 (show 1 < 4 by decide)) 0 rfl
   replace EE := hide (show Ext _ _ from hTT)
   clear hS hz0 hTT hI P2_lt P4_lt P7_lt
   generalize hF : putE _ _ _ _ _ _ _ = FF
   have hF2 : FF = { tmps := #[.agg (miR t c lo hi), .int .i64 v, .pointer (some ⟨g0, 0, none⟩), undef, .pointer (some ⟨g0 + 1, 0, none⟩), .slice none 0 0, .int .i64 0, .pointer (some ⟨g7, 0, none⟩), undef, undef, .agg (miR t c lo hi), .bool true, .bool false, undef, .pointer (some ⟨g0, 1, none⟩), .int .i64 c, .bool false, undef, .pointer (some ⟨g0, 0, none⟩), .int .i64 t, .pointer (some ⟨g0, 1, none⟩), .int .i64 c, .int .i64 (c + 1), .pointer (some ⟨g0, 2, none⟩), .int .i64 lo, .int .i64 v, .int .i64 (min lo v), .pointer (some ⟨g0, 3, none⟩), .int .i64 hi, .int .i64 v, .int .i64 (max hi v), .agg (miR t (c + 1) (min lo v) (max hi v)), .pointer (some ⟨g0, 1, none⟩), .int .i64 c, .bool true, .bool true, .agg (miR t (c + 1) (min lo v) (max hi v)), .bool true, .bool true, .agg (miR t (c + 1) (min lo v) (max hi v)), undef, undef, undef, undef, undef, undef, undef, undef, undef, undef, undef], defers := [] } := by subst hF; kernel_rfl
   clear hF
   subst hF2
   go_wp2_with fail
   exact bodyPost_ret (res3 (p := 4) (u := 5) (u2 := 6) (ty := 23) rfl _ _ _ 23 (miR t (c + 1) (min lo v) (max hi v)) _ rfl P4 uMid rfl iMid) rfl ⟨by kernel_rfl, EE.out⟩
set_option maxHeartbeats 3200000 in
set_option maxRecDepth 100000 in
theorem r_stepN (t c lo hi v : Int) (W : World) (kv : Hid (∀ w, Calls Try.prog 33 #[.agg (miR t c lo hi)] w (Ret (.bool true) w))) (d1 : (c == 1073741824) = false) (wr : IntKind.i64.wrap (c + 1) = c + 1) (d2 : decide (0 < c) = true) (kf : Hid (∀ w, Calls Try.prog 39 #[.agg (miR t (c + 1) (min lo v) (max hi v))] w (Ret (.bool false) w))) (l : List (Int × Int)) (kn : Hid (∀ w, Calls Try.prog 31 #[.agg (miR t c lo hi)] w (CoFin l 0 w))) : Calls Try.prog 25 #[.agg (miR t c lo hi), .int .i64 v] W (CoStep t 1 v v l 0 W) := by
 have P2 := (Blk.new W 23 (miR t c lo hi)).alloc (.cells z4m 23)
 have P4 := Blk.new (W.alloc (.cells (miR t c lo hi) 23)) 23 z4m
 rw [alloc_size] at P4
 have EE := hide ((ext_alloc W (.cells (miR t c lo hi) 23)).trans (ext_alloc _ (.cells z4m 23)))
 obtain ⟨W1, hW1⟩ : ∃ W1, ((W.alloc (.cells (miR t c lo hi) 23)).alloc (.cells z4m 23)) = W1 := ⟨_, rfl⟩
 obtain ⟨g0, hg⟩ : ∃ g, W.heap.size = g := ⟨_, rfl⟩
 rw [hW1] at P2 P4 EE
 rw [hg] at P2 P4
 have P2_lo : W.heap.size ≤ g0 := by omega
 have P4_lo : W.heap.size ≤ g0 + 1 := by omega
 have HW := hide hW1
 have Hg := hide hg
 clear hW1 hg
 go_enter Try.func25, Try.ntmps25
 go_upto_region 1 with fail
 unfold z4m at HW
 rw [HW.out, Hg.out]
 clear HW Hg
 refine wp_region_reads ?_
 repeat (first | go_big_quiet_step (first | with_reducible exact quiet_ret (kv.out _)) | (refine wq_load (by kernel_rfl) rfl rfl (fun w hw => by obtain ⟨⟨d, os⟩, rfl⟩ := hw; exact ld_all ((P2).ext (ext_regrown W1 d os)) uMid rfl iMid rfl) ?_) | quiet_step (first | with_reducible exact quiet_ret (kv.out _)))
 refine wpQuiet_nil ?_
 intro _ hw'
 obtain ⟨⟨dq, osq⟩, hw''⟩ := hw'
 subst hw''
 replace P2 := (P2).ext (ext_regrown W1 dq osq)
 replace P4 := (P4).ext (ext_regrown W1 dq osq)
 replace EE := hide (EE.out.trans (ext_regrown W1 dq osq))
 obtain ⟨w2, hzq1⟩ : ∃ w, grow (redrawn W1 dq) osq = w := ⟨_, rfl⟩
 rw [hzq1] at EE P2 P4 ⊢
 clear hzq1
 go_upto_region 3 with fail
 have cq3_0 := fun d os => (((P2).ext (ext_regrown w2 d os)).cell 1).trans (show (miR t c lo hi)[1]? = some (.int .i64 c) from rfl)
 refine wp_region_reads ?_
 repeat (first | go_big_quiet_step (fail) | quiet_step (fail))
 refine wpQuiet_nil ?_
 intro _ hw'
 obtain ⟨⟨dq, osq⟩, hw''⟩ := hw'
 subst hw''
 replace P2 := (P2).ext (ext_regrown w2 dq osq)
 replace P4 := (P4).ext (ext_regrown w2 dq osq)
 replace EE := hide (EE.out.trans (ext_regrown w2 dq osq))
 obtain ⟨w4, hzq3⟩ : ∃ w, grow (redrawn w2 dq) osq = w := ⟨_, rfl⟩
 rw [hzq3] at EE P2 P4 ⊢
 clear hzq3 cq3_0
 go_upto_region 5 with fail
 have P2_lt := P2.lt
 have P4_lt := P4.lt
 refine wp_evs [.q, .q, .q, .q, .q, .q, .q, .q, .q, .q, .q, .q, .q, .q, .al, .st 14] [0, 0, 0, 0, 0, 0, 0, 0, 0, 0, 0, 0, 0, 0, 0, 0] (fun R => [.pointer (some ⟨g0, 0, none⟩), .int .i64 t, .pointer (some ⟨g0, 1, none⟩), .int .i64 c, .int .i64 (c + 1), .pointer (some ⟨g0, 2, none⟩), .int .i64 lo, .int .i64 v, .int .i64 (min lo v), .pointer (some ⟨g0, 3, none⟩), .int .i64 hi, .int .i64 v, .int .i64 (max hi v), .agg (miR t (c + 1) (min lo v) (max hi v)), undef, undef]) (fun _ => (.cells z4m 23 (0, 0))) (fun R _ => (.cells (miR t (c + 1) (min lo v) (max hi v)) 23 (0, 0))) (fun _ => 0) (XE W) (fun _ => False) (by kernel_rfl) (by kernel_rfl) (by kernel_rfl) rfl (fun _ => rfl) (fun _ h => h.elim) (fun _ _ h => h) (by simp) (by simp) (fun R R' => ⟨fun _ => rfl, fun _ => rfl, fun _ => rfl, fun _ => rfl, fun _ => rfl, fun _ => rfl, fun _ => rfl, fun _ => rfl, fun _ => rfl, fun _ => rfl, fun _ => rfl, fun _ => rfl, fun _ => rfl, fun _ => rfl, fun _ => rfl, fun _ => rfl, trivial⟩) (fun _ _ _ _ => rfl) xe_below EE.out ?ops20 ?end20
 case ops20 =>
   refine ⟨?_, ?_, ?_, ?_, ?_, ?_, ?_, ?_, ?_, ?_, ?_, ?_, ?_, ?_, ?_, ?_, trivial⟩
   · refine er_q ?vn5 ?hn5 ?kn5 ?gn5 ?_
     case hn5 => exact rfl
     case vn5 => exact (fun R => .pointer (some ⟨g0, 0, none⟩))
     case kn5 => exact (fun R => rfl)
     case gn5 => exact gd_none rfl
     intro R s w' hT hs hw ha
     go_simp
   · refine er_q ?vn6 ?hn6 ?kn6 ?gn6 ?_
     case hn6 => exact rfl
     case vn6 => exact (fun R => .int .i64 t)
     case kn6 => exact (fun R => rfl)
     case gn6 => exact gd_none rfl
     intro R s w' hT hs hw ha
     have cc := ((show Blk w' g0 _ (miR t c lo hi) from P2.sameE hw (fun h => h) (by simp)).cell 0).trans (show (miR t c lo hi)[0]? = some (.int .i64 t) from rfl)
     go_simp
   · refine er_q ?vn7 ?hn7 ?kn7 ?gn7 ?_
     case hn7 => exact rfl
     case vn7 => exact (fun R => .pointer (some ⟨g0, 1, none⟩))
     case kn7 => exact (fun R => rfl)
     case gn7 => exact gd_none rfl
     intro R s w' hT hs hw ha
     go_simp
   · refine er_q ?vn8 ?hn8 ?kn8 ?gn8 ?_
     case hn8 => exact rfl
     case vn8 => exact (fun R => .int .i64 c)
     case kn8 => exact (fun R => rfl)
     case gn8 => exact gd_none rfl
     intro R s w' hT hs hw ha
     have cc := ((show Blk w' g0 _ (miR t c lo hi) from P2.sameE hw (fun h => h) (by simp)).cell 1).trans (show (miR t c lo hi)[1]? = some (.int .i64 c) from rfl)
     go_simp
   · refine er_q ?vn9 ?hn9 ?kn9 ?gn9 ?_
     case hn9 => exact rfl
     case vn9 => exact (fun R => .int .i64 (c + 1))
     case kn9 => exact (fun R => rfl)
     case gn9 => exact gd_none rfl
     intro R s w' hT hs hw ha
     go_simp
   · refine er_q ?vn10 ?hn10 ?kn10 ?gn10 ?_
     case hn10 => exact rfl
     case vn10 => exact (fun R => .pointer (some ⟨g0, 2, none⟩))
     case kn10 => exact (fun R => rfl)
     case gn10 => exact gd_none rfl
     intro R s w' hT hs hw ha
     go_simp
   · refine er_q ?vn11 ?hn11 ?kn11 ?gn11 ?_
     case hn11 => exact rfl
     case vn11 => exact (fun R => .int .i64 lo)
     case kn11 => exact (fun R => rfl)
     case gn11 => exact gd_none rfl
     intro R s w' hT hs hw ha
     have cc := ((show Blk w' g0 _ (miR t c lo hi) from P2.sameE hw (fun h => h) (by simp)).cell 2).trans (show (miR t c lo hi)[2]? = some (.int .i64 lo) from rfl)
     go_simp
   · refine er_q ?vn12 ?hn12 ?kn12 ?gn12 ?_
     case hn12 => exact rfl
     case vn12 => exact (fun R => .int .i64 v)
     case kn12 => exact (fun R => rfl)
     case gn12 => exact gd_none rfl
     intro R s w' hT hs hw ha
     go_simp
   · refine er_q ?vn13 ?hn13 ?kn13 ?gn13 ?_
     case hn13 => exact rfl
     case vn13 => exact (fun R => .int .i64 (min lo v))
     case kn13 => exact (fun R => rfl)
     case gn13 => exact gd_none rfl
     intro R s w' hT hs hw ha
     go_simp
   · refine er_q ?vn14 ?hn14 ?kn14 ?gn14 ?_
     case hn14 => exact rfl
     case vn14 => exact (fun R => .pointer (some ⟨g0, 3, none⟩))
     case kn14 => exact (fun R => rfl)
     case gn14 => exact gd_none rfl
     intro R s w' hT hs hw ha
     go_simp
   · refine er_q ?vn15 ?hn15 ?kn15 ?gn15 ?_
     case hn15 => exact rfl
     case vn15 => exact (fun R => .int .i64 hi)
     case kn15 => exact (fun R => rfl)
     case gn15 => exact gd_none rfl
     intro R s w' hT hs hw ha
     have cc := ((show Blk w' g0 _ (miR t c lo hi) from P2.sameE hw (fun h => h) (by simp)).cell 3).trans (show (miR t c lo hi)[3]? = some (.int .i64 hi) from rfl)
     go_simp
   · refine er_q ?vn16 ?hn16 ?kn16 ?gn16 ?_
     case hn16 => exact rfl
     case vn16 => exact (fun R => .int .i64 v)
     case kn16 => exact (fun R => rfl)
     case gn16 => exact gd_none rfl
     intro R s w' hT hs hw ha
     go_simp
   · refine er_q ?vn17 ?hn17 ?kn17 ?gn17 ?_
     case hn17 => exact rfl
     case vn17 => exact (fun R => .int .i64 (max hi v))
     case kn17 => exact (fun R => rfl)
     case gn17 => exact gd_none rfl
     intro R s w' hT hs hw ha
     go_simp
   · refine er_q ?vn18 ?hn18 ?kn18 ?gn18 ?_
     case hn18 => exact rfl
     case vn18 => exact (fun R => .agg (miR t (c + 1) (min lo v) (max hi v)))
     case kn18 => exact (fun R => rfl)
     case gn18 => exact gd_none rfl
     intro R s w' hT hs hw ha
     generalize hA : putE _ _ _ _ _ _ _ = AA
     refine q_buildM (vs := #[(0, .int .i64 t), (1, .int .i64 (c + 1)), (2, .int .i64 (min lo v)), (3, .int .i64 (max hi v))]) rfl ?_ (b_mi4 t (c + 1) (min lo v) (max hi v))
     subst hA
     kernel_rfl
   · refine er_al ?zn19 ?hn19 ?kn19 ?gn19 ?_
     case zn19 => exact (.cells z4m 23 (0, 0))
     case hn19 => exact rfl
     case kn19 => exact rfl
     case gn19 => exact gd_none rfl
     intro ρ w'
     go_simp
     exact ⟨rfl, rfl⟩
   · refine er_st (j := 14) (Ty := ?Tn20) (p := ?pn20) (x := ?xn20) ?fn20 ?zn20 ?vn20 ?hn20 ?on20 ?kn20 ?ln20 ?gn20 ?en20 ?_
     case hn20 => exact rfl
     case on20 => exact rfl
     case fn20 => exact (fun R => (.cells (miR t (c + 1) (min lo v) (max hi v)) 23 (0, 0)))
     case zn20 => exact (.cells z4m 23 (0, 0))
     case vn20 => exact (fun R => .agg (miR t (c + 1) (min lo v) (max hi v)))
     case kn20 => exact (fun R => rfl)
     case ln20 => exact rfl
     case gn20 => exact gd_none rfl
     case en20 =>
       intro R
       kernel_rfl
     intro R s ρ w g hT hs hp hx hg hz
     exact ⟨store_row rfl hp hx hz iMid (rfl) (miR_one _ _ _ _), fun w1 hF => ext_filled hT hF (Nat.le_trans EE.out.size hg)⟩
 case end20 =>
  intro sI R G w21 hI
  have hS := hI.same
  have hTT := hI.holds
  have hz0 := EE.out.size
  replace P2 := P2.sameE hS (fun h => h) (by simp)
  replace P4 := P4.sameE hS (fun h => h) (by simp)
  have P7 : Blk w21 (G 14) 23 (miR t (c + 1) (min lo v) (max hi v)) := (hI.fulls 15 (List.mem_range.2 (show 15 < 16 by decide)) 14 rfl).2.2
  have hmP7 := (hI.made 14 (List.mem_range.2 (show 14 < 16 by decide)) rfl).1
  have P7_lo : W.heap.size ≤ G 14 := Nat.le_trans hz0 hmP7
  have ngP2_7 : g0 ≠ G 14 := by omega
  have ngP4_7 : g0 + 1 ≠ G 14 := by omega
  replace EE := hide (show Ext _ _ from hTT)
  clear hS hz0 hTT hI P2_lt P4_lt
  generalize hF : putE _ _ _ _ _ _ _ = FF
  have hF2 : FF = { tmps := #[.agg (miR t c lo hi), .int .i64 v, .pointer (some ⟨g0, 0, none⟩), undef, .pointer (some ⟨g0 + 1, 0, none⟩), .slice none 0 0, .int .i64 0, .pointer (some ⟨G 14, 0, none⟩), undef, undef, .agg (miR t c lo hi), .bool true, .bool false, undef, .pointer (some ⟨g0, 1, none⟩), .int .i64 c, .bool false, undef, .pointer (some ⟨g0, 0, none⟩), .int .i64 t, .pointer (some ⟨g0, 1, none⟩), .int .i64 c, .int .i64 (c + 1), .pointer (some ⟨g0, 2, none⟩), .int .i64 lo, .int .i64 v, .int .i64 (min lo v), .pointer (some ⟨g0, 3, none⟩), .int .i64 hi, .int .i64 v, .int .i64 (max hi v), .agg (miR t (c + 1) (min lo v) (max hi v)), undef, undef, undef, undef, undef, undef, undef, undef, undef, undef, undef, undef, undef, undef, undef, undef, undef, undef, undef], defers := [] } := by subst hF; kernel_rfl
  clear hF
  subst hF2
  generalize G 14 = g7 at *
  go_upto_region 6 with fail
  have cq22_0 := fun d os => (((P2).ext (ext_regrown w21 d os)).cell 1).trans (show (miR t c lo hi)[1]? = some (.int .i64 c) from rfl)
  refine wp_region_reads ?_
  repeat (first | go_big_quiet_step (first | with_reducible exact quiet_ret (kf.out _)) | (refine wq_load (by kernel_rfl) rfl rfl (fun w hw => by obtain ⟨⟨d, os⟩, rfl⟩ := hw; exact ld_all ((P7).ext (ext_regrown w21 d os)) uMid rfl iMid rfl) ?_) | quiet_step (first | with_reducible exact quiet_ret (kf.out _)))
  refine wpQuiet_nil ?_
  intro _ hw'
  obtain ⟨⟨dq, osq⟩, hw''⟩ := hw'
  subst hw''
  replace P2 := (P2).ext (ext_regrown w21 dq osq)
  replace P4 := (P4).ext (ext_regrown w21 dq osq)
  replace P7 := (P7).ext (ext_regrown w21 dq osq)
  replace EE := hide (EE.out.trans (ext_regrown w21 dq osq))
  obtain ⟨w23, hzq22⟩ : ∃ w, grow (redrawn w21 dq) osq = w := ⟨_, rfl⟩
  rw [hzq22] at EE P2 P4 P7 ⊢
  clear hzq22 cq22_0
  go_upto_region 8 with fail
  have ld := ld_all P2 uMid rfl iMid rfl
  have P4x := P4.lt
  have E0 := EE
  go_upto_region 9 with (first
    | (refine wl_load (by kernel_rfl) rfl rfl ld ?_)
    | (go_at_call 31; (with_reducible refine (kn.out _).mono ?_); rintro e2 w8 ⟨A8, c8, rfl, h8, E8⟩; replace P2 := P2.ext E8; replace P4 := P4.ext E8; replace EE := hide (EE.out.trans E8); have H8 := hide h8; have Q4 := P4x; have hz8 := E0.out.size; clear h8 ld))
  have E9 := EE
  clear EE
  have EE : Hid (Upd (g0 + 1) w8 w8) := Upd.refl _ _
  have P2_lt := P2.lt
  have P4_lt := P4.lt
  refine wp_evs [.q, .q, .q, .q, .q, .q, .so 0, .q, .q] [0, 0, 0, 0, 0, 0, 0, 0, 0] (fun R => [.pointer (some ⟨g0, 0, none⟩), .int .i64 t, .int .i64 v, .int .i64 v, .agg (miR t 1 v v), .slice A8 l.length c8, undef, .slice A8 l.length c8, .int .i64 0]) (fun _ => (.cells #[] 0 (0, 0))) (fun R _ => (.cells (miR t 1 v v) 23 (0, 0))) (fun _ => g0 + 1) (UE (g0 + 1) w8) (fun _ => False) (by kernel_rfl) (by kernel_rfl) (by kernel_rfl) rfl (fun _ => rfl) (fun _ h => h.elim) (fun _ _ h => h) (by intro c hc; simp at hc; (try subst hc); (try simp only); omega) (by intro c c' h1 h2 _; simp at h1 h2; omega) (fun R R' => ⟨fun _ => rfl, fun _ => rfl, fun _ => rfl, fun _ => rfl, fun _ => rfl, fun _ => rfl, fun _ => rfl, fun _ => rfl, fun _ => rfl, trivial⟩) (fun _ _ _ _ => rfl) ue_below EE.out ?ops32 ?end32
  case ops32 =>
    refine ⟨?_, ?_, ?_, ?_, ?_, ?_, ?_, ?_, ?_, trivial⟩
    · refine er_q ?vn24 ?hn24 ?kn24 ?gn24 ?_
      case hn24 => exact rfl
      case vn24 => exact (fun R => .pointer (some ⟨g0, 0, none⟩))
      case kn24 => exact (fun R => rfl)
      case gn24 => exact gd_none rfl
      intro R s w' hT hs hw ha
      go_simp
    · refine er_q ?vn25 ?hn25 ?kn25 ?gn25 ?_
      case hn25 => exact rfl
      case vn25 => exact (fun R => .int .i64 t)
      case kn25 => exact (fun R => rfl)
      case gn25 => exact gd_none rfl
      intro R s w' hT hs hw ha
      have cc := ((show Blk w' g0 _ (miR t c lo hi) from P2.sameE hw (fun h => h) (by intro c hc; simp at hc; (try subst hc); (try simp only); omega)).cell 0).trans (show (miR t c lo hi)[0]? = some (.int .i64 t) from rfl)
      go_simp
    · refine er_q ?vn26 ?hn26 ?kn26 ?gn26 ?_
      case hn26 => exact rfl
      case vn26 => exact (fun R => .int .i64 v)
      case kn26 => exact (fun R => rfl)
      case gn26 => exact gd_none rfl
      intro R s w' hT hs hw ha
      go_simp
    · refine er_q ?vn27 ?hn27 ?kn27 ?gn27 ?_
      case hn27 => exact rfl
      case vn27 => exact (fun R => .int .i64 v)
      case kn27 => exact (fun R => rfl)
      case gn27 => exact gd_none rfl
      intro R s w' hT hs hw ha
      go_simp
    · refine er_q ?vn28 ?hn28 ?kn28 ?gn28 ?_
      case hn28 => exact rfl
      case vn28 => exact (fun R => .agg (miR t 1 v v))
      case kn28 => exact (fun R => rfl)
      case gn28 => exact gd_none rfl
      intro R s w' hT hs hw ha
      generalize hA : putE _ _ _ _ _ _ _ = AA
      refine q_buildM (vs := #[(0, .int .i64 t), (1, .int .i64 1), (2, .int .i64 v), (3, .int .i64 v)]) rfl ?_ (b_mi4 t 1 v v)
      subst hA
      kernel_rfl
    · refine er_q ?vn29 ?hn29 ?kn29 ?gn29 ?_
      case hn29 => exact rfl
      case vn29 => exact (fun R => .slice A8 l.length c8)
      case kn29 => exact (fun R => rfl)
      case gn29 => exact gd_none rfl
      intro R s w' hT hs hw ha
      go_simp
    · refine er_so (c := 0) (Ty := ?Tn30) (p := ?pn30) (x := ?xn30) (g0 + 1) ?fn30 ?un30 ?vn30 ?hn30 ?on30 ?kn30 ?ln30 ?gn30 ?dn30 ?en30 ?_
      case hn30 => exact rfl
      case on30 => exact rfl
      case fn30 => exact (fun R => (.cells (miR t 1 v v) 23 (0, 0)))
      case un30 => exact (fun R => .pointer (some ⟨g0 + 1, 0, none⟩))
      case vn30 => exact (fun R => .agg (miR t 1 v v))
      case kn30 => exact (fun R => rfl)
      case ln30 => exact rfl
      case gn30 => exact gd_none rfl
      case dn30 =>
        intro R
        kernel_rfl
      case en30 =>
        intro R
        kernel_rfl
      intro R s ρ w hT hs hp hx hz
      refine ⟨store_rowN (g := (g0 + 1)) rfl hp hx (hz.trans P4) iMid (rfl) (rfl) (miR_one _ _ _ _), fun w1 hF => ue_self hT hF⟩
    · refine er_q ?vn31 ?hn31 ?kn31 ?gn31 ?_
      case hn31 => exact rfl
      case vn31 => exact (fun R => .slice A8 l.length c8)
      case kn31 => exact (fun R => rfl)
      case gn31 => exact gd_none rfl
      intro R s w' hT hs hw ha
      go_simp
    · refine er_q ?vn32 ?hn32 ?kn32 ?gn32 ?_
      case hn32 => exact rfl
      case vn32 => exact (fun R => .int .i64 0)
      case kn32 => exact (fun R => rfl)
      case gn32 => exact gd_none rfl
      intro R s w' hT hs hw ha
      go_simp
  case end32 =>
   intro sI R G w33 hI
   have hS := hI.same
   have hTT := hI.holds
   have hz0 := EE.out.2.2.2.1
   replace P2 := P2.sameE hS (fun h => h) (by intro c hc; simp at hc; (try subst hc); (try simp only); omega)
   replace P4 : Blk w33 (g0 + 1) 23 (miR t 1 v v) := hI.olds' 6 (List.mem_range.2 (show 6 < 9 by decide)) 0 rfl
   replace EE := hide (show Upd (g0 + 1) _ _ from hTT)
   clear hS hz0 hTT hI P2_lt P4_lt
   generalize hF : putE _ _ _ _ _ _ _ = FF
   have hF2 : FF = { tmps := #[.agg (miR t c lo hi), .int .i64 v, .pointer (some ⟨g0, 0, none⟩), undef, .pointer (some ⟨g0 + 1, 0, none⟩), .slice A8 l.length c8, .int .i64 0, .pointer (some ⟨g7, 0, none⟩), .slice A8 l.length c8, .int .i64 0, .agg (miR t c lo hi), .bool true, .bool false, undef, .pointer (some ⟨g0, 1, none⟩), .int .i64 c, .bool false, undef, .pointer (some ⟨g0, 0, none⟩), .int .i64 t, .pointer (some ⟨g0, 1, none⟩), .int .i64 c, .int .i64 (c + 1), .pointer (some ⟨g0, 2, none⟩), .int .i64 lo, .int .i64 v, .int .i64 (min lo v), .pointer (some ⟨g0, 3, none⟩), .int .i64 hi, .int .i64 v, .int .i64 (max hi v), .agg (miR t (c + 1) (min lo v) (max hi v)), .pointer (some ⟨g0, 1, none⟩), .int .i64 c, .bool true, .bool true, .agg (miR t (c + 1) (min lo v) (max hi v)), .bool false, .bool false, undef, .tuple #[.slice A8 l.length c8, .int .i64 0], .agg (miR t c lo hi), .tuple #[.slice A8 l.length c8, .int .i64 0], .slice A8 l.length c8, .int .i64 0, .pointer (some ⟨g0, 0, none⟩), .int .i64 t, .int .i64 v, .int .i64 v, .agg (miR t 1 v v), .slice A8 l.length c8], defers := [] } := by subst hF; kernel_rfl
   clear hF
   subst hF2
   go_wp2_with fail
   exact bodyPost_ret (res3 (p := 4) (u := 5) (u2 := 6) (ty := 23) rfl _ _ _ 23 (miR t 1 v v) _ rfl P4 uMid rfl iMid) rfl ⟨A8, c8, by kernel_rfl, (H8.out.upd EE.out Q4).less hz8, Upd.ext EE.out E9.out P4_lo⟩
set_option maxHeartbeats 3200000 in
set_option maxRecDepth 100000 in
theorem r_step0 (t c lo hi v : Int) (W : World) (kv : Hid (∀ w, Calls Try.prog 33 #[.agg (miR t c lo hi)] w (Ret (.bool true) w))) (d1 : (c == 1073741824) = false) (wr : IntKind.i64.wrap (c + 1) = c + 1) (d2 : decide (0 < c) = false) (l : List (Int × Int)) (kn : Hid (∀ w, Calls Try.prog 31 #[.agg (miR t c lo hi)] w (CoFin l 0 w))) : Calls Try.prog 25 #[.agg (miR t c lo hi), .int .i64 v] W (CoStep t 1 v v l 0 W) := by
 have P2 := (Blk.new W 23 (miR t c lo hi)).alloc (.cells z4m 23)
 have P4 := Blk.new (W.alloc (.cells (miR t c lo hi) 23)) 23 z4m
 rw [alloc_size] at P4
 have EE := hide ((ext_alloc W (.cells (miR t c lo hi) 23)).trans (ext_alloc _ (.cells z4m 23)))
 obtain ⟨W1, hW1⟩ : ∃ W1, ((W.alloc (.cells (miR t c lo hi) 23)).alloc (.cells z4m 23)) = W1 := ⟨_, rfl⟩
 obtain ⟨g0, hg⟩ : ∃ g, W.heap.size = g := ⟨_, rfl⟩
 rw [hW1] at P2 P4 EE
 rw [hg] at P2 P4
 have P2_lo : W.heap.size ≤ g0 := by omega
 have P4_lo : W.heap.size ≤ g0 + 1 := by omega
 have HW := hide hW1
 have Hg := hide hg
 clear hW1 hg
 go_enter Try.func25, Try.ntmps25
 go_upto_region 1 with fail
 unfold z4m at HW
 rw [HW.out, Hg.out]
 clear HW Hg
 refine wp_region_reads ?_
 repeat (first | go_big_quiet_step (first | with_reducible exact quiet_ret (kv.out _)) | (refine wq_load (by kernel_rfl) rfl rfl (fun w hw => by obtain ⟨⟨d, os⟩, rfl⟩ := hw; exact ld_all ((P2).ext (ext_regrown W1 d os)) uMid rfl iMid rfl) ?_) | quiet_step (first | with_reducible exact quiet_ret (kv.out _)))
 refine wpQuiet_nil ?_
 intro _ hw'
 obtain ⟨⟨dq, osq⟩, hw''⟩ := hw'
 subst hw''
 replace P2 := (P2).ext (ext_regrown W1 dq osq)
 replace P4 := (P4).ext (ext_regrown W1 dq osq)
 replace EE := hide (EE.out.trans (ext_regrown W1 dq osq))
 obtain ⟨w2, hzq1⟩ : ∃ w, grow (redrawn W1 dq) osq = w := ⟨_, rfl⟩
 rw [hzq1] at EE P2 P4 ⊢
 clear hzq1
 go_upto_region 3 with fail
 have cq3_0 := fun d os => (((P2).ext (ext_regrown w2 d os)).cell 1).trans (show (miR t c lo hi)[1]? = some (.int .i64 c) from rfl)
 refine wp_region_reads ?_
 repeat (first | go_big_quiet_step (fail) | quiet_step (fail))
 refine wpQuiet_nil ?_
 intro _ hw'
 obtain ⟨⟨dq, osq⟩, hw''⟩ := hw'
 subst hw''
 replace P2 := (P2).ext (ext_regrown w2 dq osq)
 replace P4 := (P4).ext (ext_regrown w2 dq osq)
 replace EE := hide (EE.out.trans (ext_regrown w2 dq osq))
 obtain ⟨w4, hzq3⟩ : ∃ w, grow (redrawn w2 dq) osq = w := ⟨_, rfl⟩
 rw [hzq3] at EE P2 P4 ⊢
 clear hzq3 cq3_0
 go_upto_region 5 with fail
 have P2_lt := P2.lt
 have P4_lt := P4.lt
 refine wp_evs [.q, .q, .q, .q, .q, .q, .q, .q, .q, .q, .q, .q, .q, .q, .al, .st 14] [0, 0, 0, 0, 0, 0, 0, 0, 0, 0, 0, 0, 0, 0, 0, 0] (fun R => [.pointer (some ⟨g0, 0, none⟩), .int .i64 t, .pointer (some ⟨g0, 1, none⟩), .int .i64 c, .int .i64 (c + 1), .pointer (some ⟨g0, 2, none⟩), .int .i64 lo, .int .i64 v, .int .i64 (min lo v), .pointer (some ⟨g0, 3, none⟩), .int .i64 hi, .int .i64 v, .int .i64 (max hi v), .agg (miR t (c + 1) (min lo v) (max hi v)), undef, undef]) (fun _ => (.cells z4m 23 (0, 0))) (fun R _ => (.cells (miR t (c + 1) (min lo v) (max hi v)) 23 (0, 0))) (fun _ => 0) (XE W) (fun _ => False) (by kernel_rfl) (by kernel_rfl) (by kernel_rfl) rfl (fun _ => rfl) (fun _ h => h.elim) (fun _ _ h => h) (by simp) (by simp) (fun R R' => ⟨fun _ => rfl, fun _ => rfl, fun _ => rfl, fun _ => rfl, fun _ => rfl, fun _ => rfl, fun _ => rfl, fun _ => rfl, fun _ => rfl, fun _ => rfl, fun _ => rfl, fun _ => rfl, fun _ => rfl, fun _ => rfl, fun _ => rfl, fun _ => rfl, trivial⟩) (fun _ _ _ _ => rfl) xe_below EE.out ?ops20 ?end20
 case ops20 =>
   refine ⟨?_, ?_, ?_, ?_, ?_, ?_, ?_, ?_, ?_, ?_, ?_, ?_, ?_, ?_, ?_, ?_, trivial⟩
   · refine er_q ?vn5 ?hn5 ?kn5 ?gn5 ?_
     case hn5 => exact rfl
     case vn5 => exact (fun R => .pointer (some ⟨g0, 0, none⟩))
     case kn5 => exact (fun R => rfl)
     case gn5 => exact gd_none rfl
     intro R s w' hT hs hw ha
     go_simp
   · refine er_q ?vn6 ?hn6 ?kn6 ?gn6 ?_
     case hn6 => exact rfl
     case vn6 => exact (fun R => .int .i64 t)
     case kn6 => exact (fun R => rfl)
     case gn6 => exact gd_none rfl
     intro R s w' hT hs hw ha
     have cc := ((show Blk w' g0 _ (miR t c lo hi) from P2.sameE hw (fun h => h) (by simp)).cell 0).trans (show (miR t c lo hi)[0]? = some (.int .i64 t) from rfl)
     go_simp
   · refine er_q ?vn7 ?hn7 ?kn7 ?gn7 ?_
     case hn7 => exact rfl
     case vn7 => exact (fun R => .pointer (some ⟨g0, 1, none⟩))
     case kn7 => exact (fun R => rfl)
     case gn7 => exact gd_none rfl
     intro R s w' hT hs hw ha
     go_simp
   · refine er_q ?vn8 ?hn8 ?kn8 ?gn8 ?_
     case hn8 => exact rfl
     case vn8 => exact (fun R => .int .i64 c)
     case kn8 => exact (fun R => rfl)
     case gn8 => exact gd_none rfl
     intro R s w' hT hs hw ha
     have cc := ((show Blk w' g0 _ (miR t c lo hi) from P2.sameE hw (fun h => h) (by simp)).cell 1).trans (show (miR t c lo hi)[1]? = some (.int .i64 c) from rfl)
     go_simp
   · refine er_q ?vn9 ?hn9 ?kn9 ?gn9 ?_
     case hn9 => exact rfl
     case vn9 => exact (fun R => .int .i64 (c + 1))
     case kn9 => exact (fun R => rfl)
     case gn9 => exact gd_none rfl
     intro R s w' hT hs hw ha
     go_simp
   · refine er_q ?vn10 ?hn10 ?kn10 ?gn10 ?_
     case hn10 => exact rfl
     case vn10 => exact (fun R => .pointer (some ⟨g0, 2, none⟩))
     case kn10 => exact (fun R => rfl)
     case gn10 => exact gd_none rfl
     intro R s w' hT hs hw ha
     go_simp
   · refine er_q ?vn11 ?hn11 ?kn11 ?gn11 ?_
     case hn11 => exact rfl
     case vn11 => exact (fun R => .int .i64 lo)
     case kn11 => exact (fun R => rfl)
     case gn11 => exact gd_none rfl
     intro R s w' hT hs hw ha
     have cc := ((show Blk w' g0 _ (miR t c lo hi) from P2.sameE hw (fun h => h) (by simp)).cell 2).trans (show (miR t c lo hi)[2]? = some (.int .i64 lo) from rfl)
     go_simp
   · refine er_q ?vn12 ?hn12 ?kn12 ?gn12 ?_
     case hn12 => exact rfl
     case vn12 => exact (fun R => .int .i64 v)
     case kn12 => exact (fun R => rfl)
     case gn12 => exact gd_none rfl
     intro R s w' hT hs hw ha
     go_simp
   · refine er_q ?vn13 ?hn13 ?kn13 ?gn13 ?_
     case hn13 => exact rfl
     case vn13 => exact (fun R => .int .i64 (min lo v))
     case kn13 => exact (fun R => rfl)
     case gn13 => exact gd_none rfl
     intro R s w' hT hs hw ha
     go_simp
   · refine er_q ?vn14 ?hn14 ?kn14 ?gn14 ?_
     case hn14 => exact rfl
     case vn14 => exact (fun R => .pointer (some ⟨g0, 3, none⟩))
     case kn14 => exact (fun R => rfl)
     case gn14 => exact gd_none rfl
     intro R s w' hT hs hw ha
     go_simp
   · refine er_q ?vn15 ?hn15 ?kn15 ?gn15 ?_
     case hn15 => exact rfl
     case vn15 => exact (fun R => .int .i64 hi)
     case kn15 => exact (fun R => rfl)
     case gn15 => exact gd_none rfl
     intro R s w' hT hs hw ha
     have cc := ((show Blk w' g0 _ (miR t c lo hi) from P2.sameE hw (fun h => h) (by simp)).cell 3).trans (show (miR t c lo hi)[3]? = some (.int .i64 hi) from rfl)
     go_simp
   · refine er_q ?vn16 ?hn16 ?kn16 ?gn16 ?_
     case hn16 => exact rfl
     case vn16 => exact (fun R => .int .i64 v)
     case kn16 => exact (fun R => rfl)
     case gn16 => exact gd_none rfl
     intro R s w' hT hs hw ha
     go_simp
   · refine er_q ?vn17 ?hn17 ?kn17 ?gn17 ?_
     case hn17 => exact rfl
     case vn17 => exact (fun R => .int .i64 (max hi v))
     case kn17 => exact (fun R => rfl)
     case gn17 => exact gd_none rfl
     intro R s w' hT hs hw ha
     go_simp
   · refine er_q ?vn18 ?hn18 ?kn18 ?gn18 ?_
     case hn18 => exact rfl
     case vn18 => exact (fun R => .agg (miR t (c + 1) (min lo v) (max hi v)))
     case kn18 => exact (fun R => rfl)
     case gn18 => exact gd_none rfl
     intro R s w' hT hs hw ha
     generalize hA : putE _ _ _ _ _ _ _ = AA
     refine q_buildM (vs := #[(0, .int .i64 t), (1, .int .i64 (c + 1)), (2, .int .i64 (min lo v)), (3, .int .i64 (max hi v))]) rfl ?_ (b_mi4 t (c + 1) (min lo v) (max hi v))
     subst hA
     kernel_rfl
   · refine er_al ?zn19 ?hn19 ?kn19 ?gn19 ?_
     case zn19 => exact (.cells z4m 23 (0, 0))
     case hn19 => exact rfl
     case kn19 => exact rfl
     case gn19 => exact gd_none rfl
     intro ρ w'
     go_simp
     exact ⟨rfl, rfl⟩
   · refine er_st (j := 14) (Ty := ?Tn20) (p := ?pn20) (x := ?xn20) ?fn20 ?zn20 ?vn20 ?hn20 ?on20 ?kn20 ?ln20 ?gn20 ?en20 ?_
     case hn20 => exact rfl
     case on20 => exact rfl
     case fn20 => exact (fun R => (.cells (miR t (c + 1) (min lo v) (max hi v)) 23 (0, 0)))
     case zn20 => exact (.cells z4m 23 (0, 0))
     case vn20 => exact (fun R => .agg (miR t (c + 1) (min lo v) (max hi v)))
     case kn20 => exact (fun R => rfl)
     case ln20 => exact rfl
     case gn20 => exact gd_none rfl
     case en20 =>
       intro R
       kernel_rfl
     intro R s ρ w g hT hs hp hx hg hz
     exact ⟨store_row rfl hp hx hz iMid (rfl) (miR_one _ _ _ _), fun w1 hF => ext_filled hT hF (Nat.le_trans EE.out.size hg)⟩
 case end20 =>
  intro sI R G w21 hI
  have hS := hI.same
  have hTT := hI.holds
  have hz0 := EE.out.size
  replace P2 := P2.sameE hS (fun h => h) (by simp)
  replace P4 := P4.sameE hS (fun h => h) (by simp)
  have P7 : Blk w21 (G 14) 23 (miR t (c + 1) (min lo v) (max hi v)) := (hI.fulls 15 (List.mem_range.2 (show 15 < 16 by decide)) 14 rfl).2.2
  have hmP7 := (hI.made 14 (List.mem_range.2 (show 14 < 16 by decide)) rfl).1
  have P7_lo : W.heap.size ≤ G 14 := Nat.le_trans hz0 hmP7
  have ngP2_7 : g0 ≠ G 14 := by omega
  have ngP4_7 : g0 + 1 ≠ G 14 := by omega
  replace EE := hide (show Ext _ _ from hTT)
  clear hS hz0 hTT hI P2_lt P4_lt
  generalize hF : putE _ _ _ _ _ _ _ = FF
  have hF2 : FF = { tmps := #[.agg (miR t c lo hi), .int .i64 v, .pointer (some ⟨g0, 0, none⟩), undef, .pointer (some ⟨g0 + 1, 0, none⟩), .slice none 0 0, .int .i64 0, .pointer (some ⟨G 14, 0, none⟩), undef, undef, .agg (miR t c lo hi), .bool true, .bool false, undef, .pointer (some ⟨g0, 1, none⟩), .int .i64 c, .bool false, undef, .pointer (some ⟨g0, 0, none⟩), .int .i64 t, .pointer (some ⟨g0, 1, none⟩), .int .i64 c, .int .i64 (c + 1), .pointer (some ⟨g0, 2, none⟩), .int .i64 lo, .int .i64 v, .int .i64 (min lo v), .pointer (some ⟨g0, 3, none⟩), .int .i64 hi, .int .i64 v, .int .i64 (max hi v), .agg (miR t (c + 1) (min lo v) (max hi v)), undef, undef, undef, undef, undef, undef, undef, undef, undef, undef, undef, undef, undef, undef, undef, undef, undef, undef, undef], defers := [] } := by subst hF; kernel_rfl
  clear hF
  subst hF2
  generalize G 14 = g7 at *
  go_upto_region 6 with fail
  have cq22_0 := fun d os => (((P2).ext (ext_regrown w21 d os)).cell 1).trans (show (miR t c lo hi)[1]? = some (.int .i64 c) from rfl)
  refine wp_region_reads ?_
  repeat (first | go_big_quiet_step (fail) | quiet_step (fail))
  refine wpQuiet_nil ?_
  intro _ hw'
  obtain ⟨⟨dq, osq⟩, hw''⟩ := hw'
  subst hw''
  replace P2 := (P2).ext (ext_regrown w21 dq osq)
  replace P4 := (P4).ext (ext_regrown w21 dq osq)
  replace P7 := (P7).ext (ext_regrown w21 dq osq)
  replace EE := hide (EE.out.trans (ext_regrown w21 dq osq))
  obtain ⟨w23, hzq22⟩ : ∃ w, grow (redrawn w21 dq) osq = w := ⟨_, rfl⟩
  rw [hzq22] at EE P2 P4 P7 ⊢
  clear hzq22 cq22_0
  go_upto_region 8 with fail
  have ld := ld_all P2 uMid rfl iMid rfl
  have P4x := P4.lt
  have E0 := EE
  go_upto_region 9 with (first
    | (refine wl_load (by kernel_rfl) rfl rfl ld ?_)
    | (go_at_call 31; (with_reducible refine (kn.out _).mono ?_); rintro e2 w8 ⟨A8, c8, rfl, h8, E8⟩; replace P2 := P2.ext E8; replace P4 := P4.ext E8; replace EE := hide (EE.out.trans E8); have H8 := hide h8; have Q4 := P4x; have hz8 := E0.out.size; clear h8 ld))
  have E9 := EE
  clear EE
  have EE : Hid (Upd (g0 + 1) w8 w8) := Upd.refl _ _
  have P2_lt := P2.lt
  have P4_lt := P4.lt
  refine wp_evs [.q, .q, .q, .q, .q, .q, .so 0, .q, .q] [0, 0, 0, 0, 0, 0, 0, 0, 0] (fun R => [.pointer (some ⟨g0, 0, none⟩), .int .i64 t, .int .i64 v, .int .i64 v, .agg (miR t 1 v v), .slice A8 l.length c8, undef, .slice A8 l.length c8, .int .i64 0]) (fun _ => (.cells #[] 0 (0, 0))) (fun R _ => (.cells (miR t 1 v v) 23 (0, 0))) (fun _ => g0 + 1) (UE (g0 + 1) w8) (fun _ => False) (by kernel_rfl) (by kernel_rfl) (by kernel_rfl) rfl (fun _ => rfl) (fun _ h => h.elim) (fun _ _ h => h) (by intro c hc; simp at hc; (try subst hc); (try simp only); omega) (by intro c c' h1 h2 _; simp at h1 h2; omega) (fun R R' => ⟨fun _ => rfl, fun _ => rfl, fun _ => rfl, fun _ => rfl, fun _ => rfl, fun _ => rfl, fun _ => rfl, fun _ => rfl, fun _ => rfl, trivial⟩) (fun _ _ _ _ => rfl) ue_below EE.out ?ops32 ?end32
  case ops32 =>
    refine ⟨?_, ?_, ?_, ?_, ?_, ?_, ?_, ?_, ?_, trivial⟩
    · refine er_q ?vn24 ?hn24 ?kn24 ?gn24 ?_
      case hn24 => exact rfl
      case vn24 => exact (fun R => .pointer (some ⟨g0, 0, none⟩))
      case kn24 => exact (fun R => rfl)
      case gn24 => exact gd_none rfl
      intro R s w' hT hs hw ha
      go_simp
    · refine er_q ?vn25 ?hn25 ?kn25 ?gn25 ?_
      case hn25 => exact rfl
      case vn25 => exact (fun R => .int .i64 t)
      case kn25 => exact (fun R => rfl)
      case gn25 => exact gd_none rfl
      intro R s w' hT hs hw ha
      have cc := ((show Blk w' g0 _ (miR t c lo hi) from P2.sameE hw (fun h => h) (by intro c hc; simp at hc; (try subst hc); (try simp only); omega)).cell 0).trans (show (miR t c lo hi)[0]? = some (.int .i64 t) from rfl)
      go_simp
    · refine er_q ?vn26 ?hn26 ?kn26 ?gn26 ?_
      case hn26 => exact rfl
      case vn26 => exact (fun R => .int .i64 v)
      case kn26 => exact (fun R => rfl)
      case gn26 => exact gd_none rfl
      intro R s w' hT hs hw ha
      go_simp
    · refine er_q ?vn27 ?hn27 ?kn27 ?gn27 ?_
      case hn27 => exact rfl
      case vn27 => exact (fun R => .int .i64 v)
      case kn27 => exact (fun R => rfl)
      case gn27 => exact gd_none rfl
      intro R s w' hT hs hw ha
      go_simp
    · refine er_q ?vn28 ?hn28 ?kn28 ?gn28 ?_
      case hn28 => exact rfl
      case vn28 => exact (fun R => .agg (miR t 1 v v))
      case kn28 => exact (fun R => rfl)
      case gn28 => exact gd_none rfl
      intro R s w' hT hs hw ha
      generalize hA : putE _ _ _ _ _ _ _ = AA
      refine q_buildM (vs := #[(0, .int .i64 t), (1, .int .i64 1), (2, .int .i64 v), (3, .int .i64 v)]) rfl ?_ (b_mi4 t 1 v v)
      subst hA
      kernel_rfl
    · refine er_q ?vn29 ?hn29 ?kn29 ?gn29 ?_
      case hn29 => exact rfl
      case vn29 => exact (fun R => .slice A8 l.length c8)
      case kn29 => exact (fun R => rfl)
      case gn29 => exact gd_none rfl
      intro R s w' hT hs hw ha
      go_simp
    · refine er_so (c := 0) (Ty := ?Tn30) (p := ?pn30) (x := ?xn30) (g0 + 1) ?fn30 ?un30 ?vn30 ?hn30 ?on30 ?kn30 ?ln30 ?gn30 ?dn30 ?en30 ?_
      case hn30 => exact rfl
      case on30 => exact rfl
      case fn30 => exact (fun R => (.cells (miR t 1 v v) 23 (0, 0)))
      case un30 => exact (fun R => .pointer (some ⟨g0 + 1, 0, none⟩))
      case vn30 => exact (fun R => .agg (miR t 1 v v))
      case kn30 => exact (fun R => rfl)
      case ln30 => exact rfl
      case gn30 => exact gd_none rfl
      case dn30 =>
        intro R
        kernel_rfl
      case en30 =>
        intro R
        kernel_rfl
      intro R s ρ w hT hs hp hx hz
      refine ⟨store_rowN (g := (g0 + 1)) rfl hp hx (hz.trans P4) iMid (rfl) (rfl) (miR_one _ _ _ _), fun w1 hF => ue_self hT hF⟩
    · refine er_q ?vn31 ?hn31 ?kn31 ?gn31 ?_
      case hn31 => exact rfl
      case vn31 => exact (fun R => .slice A8 l.length c8)
      case kn31 => exact (fun R => rfl)
      case gn31 => exact gd_none rfl
      intro R s w' hT hs hw ha
      go_simp
    · refine er_q ?vn32 ?hn32 ?kn32 ?gn32 ?_
      case hn32 => exact rfl
      case vn32 => exact (fun R => .int .i64 0)
      case kn32 => exact (fun R => rfl)
      case gn32 => exact gd_none rfl
      intro R s w' hT hs hw ha
      go_simp
  case end32 =>
   intro sI R G w33 hI
   have hS := hI.same
   have hTT := hI.holds
   have hz0 := EE.out.2.2.2.1
   replace P2 := P2.sameE hS (fun h => h) (by intro c hc; simp at hc; (try subst hc); (try simp only); omega)
   replace P4 : Blk w33 (g0 + 1) 23 (miR t 1 v v) := hI.olds' 6 (List.mem_range.2 (show 6 < 9 by decide)) 0 rfl
   replace EE := hide (show Upd (g0 + 1) _ _ from hTT)
   clear hS hz0 hTT hI P2_lt P4_lt
   generalize hF : putE _ _ _ _ _ _ _ = FF
   have hF2 : FF = { tmps := #[.agg (miR t c lo hi), .int .i64 v, .pointer (some ⟨g0, 0, none⟩), undef, .pointer (some ⟨g0 + 1, 0, none⟩), .slice A8 l.length c8, .int .i64 0, .pointer (some ⟨g7, 0, none⟩), .slice A8 l.length c8, .int .i64 0, .agg (miR t c lo hi), .bool true, .bool false, undef, .pointer (some ⟨g0, 1, none⟩), .int .i64 c, .bool false, undef, .pointer (some ⟨g0, 0, none⟩), .int .i64 t, .pointer (some ⟨g0, 1, none⟩), .int .i64 c, .int .i64 (c + 1), .pointer (some ⟨g0, 2, none⟩), .int .i64 lo, .int .i64 v, .int .i64 (min lo v), .pointer (some ⟨g0, 3, none⟩), .int .i64 hi, .int .i64 v, .int .i64 (max hi v), .agg (miR t (c + 1) (min lo v) (max hi v)), .pointer (some ⟨g0, 1, none⟩), .int .i64 c, .bool false, .bool false, undef, undef, .bool false, undef, .tuple #[.slice A8 l.length c8, .int .i64 0], .agg (miR t c lo hi), .tuple #[.slice A8 l.length c8, .int .i64 0], .slice A8 l.length c8, .int .i64 0, .pointer (some ⟨g0, 0, none⟩), .int .i64 t, .int .i64 v, .int .i64 v, .agg (miR t 1 v v), .slice A8 l.length c8], defers := [] } := by subst hF; kernel_rfl
   clear hF
   subst hF2
   go_wp2_with fail
   exact bodyPost_ret (res3 (p := 4) (u := 5) (u2 := 6) (ty := 23) rfl _ _ _ 23 (miR t 1 v v) _ rfl P4 uMid rfl iMid) rfl ⟨A8, c8, by kernel_rfl, (H8.out.upd EE.out Q4).less hz8, Upd.ext EE.out E9.out P4_lo⟩
end
section
open Go Go.ChangeShapes Go.WideShapes Go.ChangeAt Go.RowKit
section
variable {H : Type} {enc : TypeId × Value → H} {W : World}
theorem trod_struct4 {t : TypeId} {f0 f1 f2 f3 : Field} {fuel : Nat} {cs : List Value} {x : DataW H × List MemPlace} (ht : Try.prog.underlying t = some (.struct #[f0, f1, f2, f3])) (h : DataW.trod enc Try.prog W 0 (fun _ => true) true fuel t cs = some x) :
   ∃ y0 y1 y2 y3 n, DataW.trod enc Try.prog W 0 (fun _ => true) true n f0.type ((cs.drop f0.offset).take (Try.prog.cellsOf f0.type)) = some y0 ∧ DataW.trod enc Try.prog W 0 (fun _ => true) true n f1.type ((cs.drop f1.offset).take (Try.prog.cellsOf f1.type)) = some y1 ∧ DataW.trod enc Try.prog W 0 (fun _ => true) true n f2.type ((cs.drop f2.offset).take (Try.prog.cellsOf f2.type)) = some y2 ∧ DataW.trod enc Try.prog W 0 (fun _ => true) true n f3.type ((cs.drop f3.offset).take (Try.prog.cellsOf f3.type)) = some y3 := by
 obtain ⟨xs, n, _, rfl, hl, hlen, hf⟩ := DataW.trod_struct ht h
 match xs, hlen with
 | [y0, y1, y2, y3], _ => exact ⟨y0, y1, y2, y3, n, by simpa using hf 0 f0 rfl, by simpa using hf 1 f1 rfl, by simpa using hf 2 f2 rfl, by simpa using hf 3 f3 rfl⟩
theorem array4m {α : Type} {cs : Array α} (h : cs.size = 4) : ∃ c0 c1 c2 c3, cs = #[c0, c1, c2, c3] := by
 obtain ⟨l⟩ := cs
 match l, h with
 | [c0, c1, c2, c3], _ => exact ⟨c0, c1, c2, c3, rfl⟩
theorem cellsMid : Try.prog.cellsOf 23 = 4 := by kernel_rfl
theorem cellsI64m : Try.prog.cellsOf 2 = 1 := by kernel_rfl
theorem cellsIntm : Try.prog.cellsOf 3 = 1 := by kernel_rfl
theorem i64_trodm {t : TypeId} (ht : Try.prog.underlying t = some (.int .i64)) {n : Nat} {c : Value} {x : DataW H × List MemPlace} (h : DataW.trod enc Try.prog W 0 (fun _ => true) true n t [c] = some x) : ∃ i : Int, c = .int .i64 i ∧ I64 i := by
 obtain ⟨i, hc, _, hw⟩ := DataW.trod_int ht h
 obtain rfl : c = .int .i64 i := by simpa using hc
 exact ⟨i, rfl, bounds_i64 hw⟩
theorem mid_open {base : Nat} {v : Value} {d : DataW H} {p : List MemPlace} (hv : Value.okWide Try.prog W .any base 23 v) (h : DataW.Trod enc Try.prog W 0 (fun _ => true) true 23 v d p) : ∃ t c lo hi : Int, v = .agg (miR t c lo hi) ∧ I64 t ∧ I64 c ∧ I64 lo ∧ I64 hi := by
 obtain ⟨cs, rfl, hsz⟩ := okWide_struct Try.underlying23 hv
 obtain ⟨a0, a1, a2, a3, rfl⟩ := array4m (hsz.trans cellsMid)
 obtain ⟨fuel, hf⟩ := h
 obtain ⟨y0, y1, y2, y3, n, h0, h1, h2, h3⟩ := trod_struct4 Try.underlying23 hf
 simp only [cellsI64m, cellsIntm] at h0 h1 h2 h3
 obtain ⟨i0, rfl, j0⟩ := i64_trodm Try.underlying2 (show DataW.trod enc Try.prog W 0 (fun _ => true) true n 2 [a0] = some y0 from h0)
 obtain ⟨i1, rfl, j1⟩ := i64_trodm Try.underlying3 (show DataW.trod enc Try.prog W 0 (fun _ => true) true n 3 [a1] = some y1 from h1)
 obtain ⟨i2, rfl, j2⟩ := i64_trodm Try.underlying2 (show DataW.trod enc Try.prog W 0 (fun _ => true) true n 2 [a2] = some y2 from h2)
 obtain ⟨i3, rfl, j3⟩ := i64_trodm Try.underlying2 (show DataW.trod enc Try.prog W 0 (fun _ => true) true n 2 [a3] = some y3 from h3)
 exact ⟨i0, i1, i2, i3, rfl, j0, j1, j2, j3⟩
end
end
section
open Go Go.RowKit Go.Sort
def sgF : Array Value := #[.func (.func 45) #[] #[], .func (.func 46) #[] #[], .func (.func 41) #[] #[]]
theorem uSgm : Try.prog.underlying 75 = some (.struct (Try.prog.fieldsOf 75)) := by kernel_rfl
theorem iSgm : (Try.prog.info? 75).map (·.size) = some 3 := by kernel_rfl
theorem p_middles (W : World) : Calls Try.prog 36 #[] W (Ret (.agg sgF) W) := by
 go_enter Try.func36, Try.ntmps36
 go_wp2_with fail
 exact bodyPost_ret (results_cell_row (p := 0) (ty := 75) rfl _ _ _ 75 sgF (0, 0) _ rfl (Blk.new _ _ _) uSgm rfl iSgm) rfl ⟨rfl, ext_alloc _ _⟩
theorem p_begin (t c lo hi v : Int) (W : World) : Calls Try.prog 46 #[.agg (miR t c lo hi), .int .i64 v] W (Ret (.agg (miR t 1 v v)) W) := by
 unfold miR
 have P1 := Blk.new (W.alloc (.cells #[.int .i64 t, .int .i64 c, .int .i64 lo, .int .i64 hi] 23)) 23 #[.int .i64 t, .int .i64 1, .int .i64 v, .int .i64 v]
 rw [alloc_size] at P1
 go_enter Try.func46, Try.ntmps46
 go_wp2_with fail
 exact bodyPost_ret (results_cell_row (p := 4) (ty := 23) rfl _ _ _ 23 #[.int .i64 t, .int .i64 1, .int .i64 v, .int .i64 v] (0, 0) _ rfl P1 uMid rfl iMid) rfl ⟨rfl, (ext_alloc _ _).trans (ext_alloc _ _)⟩
theorem one_co {w : World} {B : Nat} {c m : Int} (hc : I64 c) (hm : I64 m) (hB : B ≤ w.heap.size) : OwnC B (w.alloc (.cells #[.int .i64 c, .int .i64 m] 46)) (.slice (some ⟨w.heap.size, 0, none⟩) 1 1) [(c, m)] := by
 refine ⟨⟨rfl, Or.inr ⟨w.heap.size, 1, _, rfl, hB, heap_alloc_new w _, Nat.le_refl _, by unfold maxLen; omega, rfl, rfl⟩⟩, IsS.one hc hm⟩
theorem p_endM (t c lo hi : Int) (W : World) (hl : I64 lo) (hh : I64 hi) (hc : I64 c) : Calls Try.prog 41 #[.agg (miR t c lo hi)] W (CoGet (endL c lo hi) W) := by
 have KM := hide (fun w => p_mid lo hi w hl hh)
 have im : I64 ((lo + hi) / 2) := by unfold I64 at *; omega
 obtain ⟨m, hm⟩ : ∃ m, (lo + hi) / 2 = m := ⟨_, rfl⟩
 unfold endL
 rw [hm] at KM im ⊢
 clear hm hl hh
 unfold miR
 by_cases h0 : c = 0
 · have d0 : (c == 0) = true := by rw [beq_iff_eq]; exact h0
   rw [if_pos h0]
   clear h0
   go_enter Try.func41, Try.ntmps41
   go_wp2_with fail
   go_ret
   exact ⟨none, 0, rfl, OwnC.nil_ _ _, ext_alloc _ _⟩
 · have d0 : (c == 0) = false := by rw [beq_eq_false_iff_ne]; exact h0
   rw [if_neg h0]
   have O1 := hide (one_co (w := W.alloc (.cells #[.int .i64 t, .int .i64 c, .int .i64 lo, .int .i64 hi] 23)) (B := W.heap.size) hc im (ext_alloc _ _).size)
   rw [alloc_size] at O1
   clear h0
   go_enter Try.func41, Try.ntmps41
   go_upto_region 3 with fail
   go_region_law (go_simp; go_at_call 48; (with_reducible refine (KM.out _).mono ?_); rintro e w1 ⟨rfl, rfl⟩)
   all_goals go_wp2_with fail
   all_goals go_ret
   all_goals exact ⟨_, 1, rfl, O1.out.drew, ((ext_alloc _ _).trans (ext_alloc _ _)).trans (ext_drew _)⟩
theorem r_finN (t c lo hi : Int) (W : World) (kv : Hid (∀ w, Calls Try.prog 33 #[.agg (miR t c lo hi)] w (Ret (.bool false) w))) : Calls Try.prog 31 #[.agg (miR t c lo hi)] W (CoFin [] 1 W) := by
 unfold miR at *
 go_enter Try.func31, Try.ntmps31
 go_wp2_with (go_at_call 33; (with_reducible refine (kv.out _).mono ?_); rintro e w1 ⟨rfl, hE⟩; have E1 := hide hE; clear hE)
 go_ret2
 exact ⟨none, 0, rfl, OwnC.nil_ _ _, (ext_alloc _ _).trans E1.out⟩
theorem r_finY (t c lo hi : Int) (W : World) (hl : I64 lo) (hh : I64 hi) (hc : I64 c) (hle : lo ≤ hi) (kv : Hid (∀ w, Calls Try.prog 33 #[.agg (miR t c lo hi)] w (Ret (.bool true) w))) : Calls Try.prog 31 #[.agg (miR t c lo hi)] W (CoFin (endL c lo hi) 0 W) := by
 have KM := hide (fun w => r_mid lo hi w hl hh hle)
 have im : I64 ((lo + hi) / 2) := by unfold I64 at *; omega
 obtain ⟨m, hm⟩ : ∃ m, (lo + hi) / 2 = m := ⟨_, rfl⟩
 unfold endL
 rw [hm] at KM im ⊢
 clear hm hl hh hle
 unfold miR at *
 have P0 := hide (Blk.new W 23 #[.int .i64 t, .int .i64 c, .int .i64 lo, .int .i64 hi])
 by_cases h0 : c = 0
 · have d0 : (c == 0) = true := by rw [beq_iff_eq]; exact h0
   rw [if_pos h0]
   clear h0
   go_enter Try.func31, Try.ntmps31
   go_wp2_with (go_at_call 33; (with_reducible refine (kv.out _).mono ?_); rintro e w1 ⟨rfl, hE⟩; have E1 := hide hE; have c1 := ((P0.out.ext hE).cell 1).trans rfl; clear hE)
   go_ret2
   exact ⟨none, 0, rfl, OwnC.nil_ _ _, (ext_alloc _ _).trans E1.out⟩
 · have d0 : (c == 0) = false := by rw [beq_eq_false_iff_ne]; exact h0
   rw [if_neg h0]
   clear h0
   go_enter Try.func31, Try.ntmps31
   go_upto_region 5 with (go_at_call 33; (with_reducible refine (kv.out _).mono ?_); rintro e w1 ⟨rfl, hE⟩; have E1 := hide hE; have c1 := ((P0.out.ext hE).cell 1).trans rfl; have c2 := ((P0.out.ext hE).cell 2).trans rfl; have c3 := ((P0.out.ext hE).cell 3).trans rfl; clear hE)
   have O1 := hide (one_co (w := w1) (B := W.heap.size) hc im (Nat.le_trans (ext_alloc _ _).size E1.out.size))
   have e1 := c1
   have e2 := c2
   have e3 := c3
   go_region_law (go_simp; go_at_call 23; (with_reducible refine (KM.out _).mono ?_); rintro e w2 ⟨rfl, rfl⟩)
   all_goals go_wp2_with fail
   all_goals go_ret2
   all_goals exact ⟨_, 1, rfl, O1.out.drew, ((ext_alloc _ _).trans E1.out).trans ((ext_alloc _ _).trans (ext_drew _))⟩
end
section
open Go Go.RowKit Go.Sort
def CoPair (R : Array Value) (l : List (Int × Int)) (W : World) (e : Ending) (w' : World) : Prop := ∃ A k, e = .returned (.tuple #[.agg R, .slice A l.length k]) ∧ OwnC W.heap.size w' (.slice A l.length k) l ∧ Ext W w'
theorem st_all {w : World} {g : Nat} {t ty : TypeId} {X Y : Array Value} {n : Nat} (h : Blk w g t X) (hi : (Try.prog.info? ty).map (·.size) = some n) (hX : X.size = n) (hY : Y.size = n) (hO : Y.all (·.oneCell') = true) : (Instr.storeAt ty (.pointer (some ⟨g, 0, none⟩)) (.agg Y)).run Try.prog w = .ok () (w.setRow g Y) :=
 run_store_part h ty 0 n hi (by omega) Y hY hO Y (by
   have : X.toList.drop (0 + n) = [] := List.drop_eq_nil_of_le (by simp; omega)
   rw [this]; simp)
theorem p_stepY (t c lo hi v : Int) (W : World) (a b : Int) (kx : Hid (∀ w, Calls Try.prog 45 #[.agg (miR t c lo hi), .int .i64 v] w (Ret (.tuple #[.agg (miR t (c + 1) a b), .bool true]) w))) :
   Calls Try.prog 40 #[.agg sgF, .agg (miR t c lo hi), .int .i64 v] W (CoPair (miR t (c + 1) a b) [] W) := by
 have hen : ∀ a w, (callFunc 45 a).run Try.prog w = .ok (.enter 45 a) w := fun a w => by go_simp
 have P4 := Blk.new (W.alloc (.cells sgF 75)) 23 (miR t c lo hi)
 have P3 := (Blk.new W 75 sgF).alloc (.cells (miR t c lo hi) 23)
 have P6 := Blk.new ((W.alloc (.cells sgF 75)).alloc (.cells (miR t c lo hi) 23)) 23 z4m
 replace P4 := P4.alloc (.cells z4m 23)
 replace P3 := P3.alloc (.cells z4m 23)
 have EE := ((ext_alloc W (.cells sgF 75)).trans (ext_alloc _ (.cells (miR t c lo hi) 23))).trans (ext_alloc _ (.cells z4m 23))
 simp only [alloc_size] at P4 P6
 have P3 := hide P3
 have P4 := hide P4
 have P6 := hide P6
 have EE := hide EE
 have oY := hide (miR_one t (c + 1) a b)
 unfold miR sgF z4m at *
 go_enter Try.func40, Try.ntmps40
 go_wp2_with fail
 (with_reducible refine (kx.out _).mono ?_)
 rintro e w1 ⟨rfl, hE⟩
 have E1 := hide (EE.out.trans (hE.trans (ext_alloc w1 (.cells #[.int .i64 t, .int .i64 (c + 1), .int .i64 a, .int .i64 b] 23))))
 have Q6 := hide ((P6.out.ext hE).alloc (.cells #[.int .i64 t, .int .i64 (c + 1), .int .i64 a, .int .i64 b] 23))
 have st := st_all (Y := #[.int .i64 t, .int .i64 (c + 1), .int .i64 a, .int .i64 b]) Q6.out iMid rfl rfl oY.out
 clear hE
 go_wp2_with (refine wl_store (by kernel_rfl) rfl rfl rfl st ?_)
 exact bodyPost_ret (res2 (p := 6) (u := 7) (ty := 23) rfl _ _ _ 23 #[.int .i64 t, .int .i64 (c + 1), .int .i64 a, .int .i64 b] _ rfl (Q6.out.setRow _) uMid rfl iMid) rfl ⟨none, 0, rfl, OwnC.nil_ _ _, ext_row E1.out (by omega) _⟩
set_option maxHeartbeats 3200000 in
set_option maxRecDepth 100000 in
theorem p_stepN (t c lo hi v : Int) (W : World) (l : List (Int × Int)) (kx : Hid (∀ w, Calls Try.prog 45 #[.agg (miR t c lo hi), .int .i64 v] w (Ret (.tuple #[.agg z4m, .bool false]) w))) (kb : Hid (∀ w, Calls Try.prog 46 #[.agg (miR t c lo hi), .int .i64 v] w (Ret (.agg (miR t 1 v v)) w))) (ke : Hid (∀ w, Calls Try.prog 41 #[.agg (miR t c lo hi)] w (CoGet l w))) :
   Calls Try.prog 40 #[.agg sgF, .agg (miR t c lo hi), .int .i64 v] W (CoPair (miR t 1 v v) l W) := by
 have hen : ∀ a w, (callFunc 45 a).run Try.prog w = .ok (.enter 45 a) w := fun a w => by go_simp
 have hen2 : ∀ a w, (callFunc 46 a).run Try.prog w = .ok (.enter 46 a) w := fun a w => by go_simp
 have hen3 : ∀ a w, (callFunc 41 a).run Try.prog w = .ok (.enter 41 a) w := fun a w => by go_simp
 have P4 := Blk.new (W.alloc (.cells sgF 75)) 23 (miR t c lo hi)
 have P3 := (Blk.new W 75 sgF).alloc (.cells (miR t c lo hi) 23)
 have P6 := Blk.new ((W.alloc (.cells sgF 75)).alloc (.cells (miR t c lo hi) 23)) 23 z4m
 replace P4 := P4.alloc (.cells z4m 23)
 replace P3 := P3.alloc (.cells z4m 23)
 have EE := ((ext_alloc W (.cells sgF 75)).trans (ext_alloc _ (.cells (miR t c lo hi) 23))).trans (ext_alloc _ (.cells z4m 23))
 simp only [alloc_size] at P4 P6
 have P3 := hide P3
 have P4 := hide P4
 have P6 := hide P6
 have EE := hide EE
 have oY := hide (miR_one t 1 v v)
 unfold miR sgF z4m at *
 go_enter Try.func40, Try.ntmps40
 go_wp2_with fail
 (with_reducible refine (kx.out _).mono ?_)
 rintro e w1 ⟨rfl, hE⟩
 have E1 := hide (EE.out.trans (hE.trans (ext_alloc w1 (.cells #[.int .i64 0, .int .i64 0, .int .i64 0, .int .i64 0] 23))))
 have Q3 := hide ((P3.out.ext hE).alloc (.cells #[.int .i64 0, .int .i64 0, .int .i64 0, .int .i64 0] 23))
 have Q4 := hide ((P4.out.ext hE).alloc (.cells #[.int .i64 0, .int .i64 0, .int .i64 0, .int .i64 0] 23))
 have Q6 := hide ((P6.out.ext hE).alloc (.cells #[.int .i64 0, .int .i64 0, .int .i64 0, .int .i64 0] 23))
 clear hE P3 P4 P6 EE
 go_upto_region 4 with fail
 obtain ⟨w2, hw2⟩ : ∃ w, w1.alloc (.cells #[.int .i64 0, .int .i64 0, .int .i64 0, .int .i64 0] 23) = w := ⟨_, rfl⟩
 rw [hw2] at E1 Q3 Q4 Q6 ⊢
 clear hw2
 have KE : Hid (∀ w, Upd (W.heap.size + 1 + 1) w2 w → w.cell? ⟨W.heap.size, 1, none⟩ = some (.func (.func 46) #[] #[]) ∧ w.cell? ⟨W.heap.size, 2, none⟩ = some (.func (.func 41) #[] #[]) ∧ w.cell? ⟨W.heap.size + 1, 0, none⟩ = some (.int .i64 t) ∧ w.cell? ⟨W.heap.size + 1, 1, none⟩ = some (.int .i64 c) ∧ w.cell? ⟨W.heap.size + 1, 2, none⟩ = some (.int .i64 lo) ∧ w.cell? ⟨W.heap.size + 1, 3, none⟩ = some (.int .i64 hi)) := hide fun w h => by
   have R3 : Blk w _ _ _ := (h.2.2.2.2 _ Q3.out.lt (by omega)).trans Q3.out
   have R4 : Blk w _ _ _ := (h.2.2.2.2 _ Q4.out.lt (by omega)).trans Q4.out
   exact ⟨(R3.cell 1).trans rfl, (R3.cell 2).trans rfl, (R4.cell 0).trans rfl, (R4.cell 1).trans rfl, (R4.cell 2).trans rfl, (R4.cell 3).trans rfl⟩
 have H2 := KE.out w2 (Upd.refl _ _)
 go_region_held3 (fun w' => w'.cell? ⟨W.heap.size, 1, none⟩ = some (.func (.func 46) #[] #[]) ∧ w'.cell? ⟨W.heap.size, 2, none⟩ = some (.func (.func 41) #[] #[]) ∧ w'.cell? ⟨W.heap.size + 1, 0, none⟩ = some (.int .i64 t) ∧ w'.cell? ⟨W.heap.size + 1, 1, none⟩ = some (.int .i64 c) ∧ w'.cell? ⟨W.heap.size + 1, 2, none⟩ = some (.int .i64 lo) ∧ w'.cell? ⟨W.heap.size + 1, 3, none⟩ = some (.int .i64 hi)) (first | (with_reducible exact H2) | (with_reducible exact H3) | (with_reducible exact H4) | (exact KE.out _ ((((U4.out.set 0 _).set 1 _).set 2 _).set 3 _)) | go_keep) (first
   | ((with_reducible refine (kb.out _).mono ?_); rintro e w3 ⟨rfl, hE3⟩; have E3 := hide ((ext_drew w2).trans hE3); have H3 := KE.out w3 (E3.out.upd _); clear hE3)
   | ((with_reducible refine (ke.out _).mono ?_); rintro e w4 ⟨A4, k4, rfl, hO4, hE4⟩; have E4 := hide (E3.out.trans hE4); have U4 := hide (E4.out.upd (W.heap.size + 1 + 1)); have H4 := KE.out w4 U4.out; have O4 := hide hO4; have hs4 := hE4.size; have Q7 := hide (Q6.out.ext E4.out); have s0 := (Q7.out.cell 0).trans rfl; have f0 := Q7.out.frozen 0; have s1 := (Q7.out.cell 1).trans rfl; have f1 := Q7.out.frozen 1; have s2 := (Q7.out.cell 2).trans rfl; have f2 := Q7.out.frozen 2; have s3 := (Q7.out.cell 3).trans rfl; have f3 := Q7.out.frozen 3; clear hE4 hO4))
 have U9 := ((((Upd.refl (W.heap.size + 1 + 1) w4).set 0 (.int .i64 t)).set 1 (.int .i64 1)).set 2 (.int .i64 v)).set 3 (.int .i64 v)
 have P9 := (((Q7.out.set_ 0 (.int .i64 t)).set_ 1 (.int .i64 1)).set_ 2 (.int .i64 v)).set_ 3 (.int .i64 v)
 have h6 := Q6.out.lt
 have h3 := E3.out.size
 have O9 := (O4.out.upd U9 (by omega)).less (B' := W.heap.size) (by have := E1.out.size; omega)
 have X9 := U9.ext (E1.out.trans E4.out) (by omega)
 obtain ⟨w9, hw9⟩ : ∃ w, ((((w4.setCell ⟨W.heap.size + 1 + 1, 0, none⟩ (.int .i64 t)).setCell ⟨W.heap.size + 1 + 1, 1, none⟩ (.int .i64 1)).setCell ⟨W.heap.size + 1 + 1, 2, none⟩ (.int .i64 v)).setCell ⟨W.heap.size + 1 + 1, 3, none⟩ (.int .i64 v)) = w := ⟨_, rfl⟩
 rw [hw9] at P9 O9 X9 ⊢
 clear hw9
 go_wp2_with fail
 exact bodyPost_ret (res2 (p := 6) (u := 7) (ty := 23) rfl _ _ _ 23 #[.int .i64 t, .int .i64 1, .int .i64 v, .int .i64 v] _ rfl P9 uMid rfl iMid) rfl ⟨A4, k4, rfl, O9, X9⟩
end
section
abbrev Ms := Nat × Int × Int
def stepM (eps : Int) : Option Ms → Int → Option Ms × List Ms
 | none, v => (some (1, v, v), [])
 | some (n, lo, hi), v => if max hi v - min lo v ≤ 2 * eps then (some (n + 1, min lo v, max hi v), []) else (some (1, v, v), [(n, lo, hi)])
def stateM (eps : Int) (s : Option Ms) (l : List Int) : Option Ms := l.foldl (fun s v => (stepM eps s v).1) s
def doneM (eps : Int) : Option Ms → List Int → List Ms
 | _, [] => []
 | s, v :: l => (stepM eps s v).2 ++ doneM eps (stepM eps s v).1 l
def endM : Option Ms → List Ms
 | none => []
 | some s => [s]
def allM (eps : Int) (l : List Int) : List Ms := doneM eps none l ++ endM (stateM eps none l)
theorem stateM_app (eps : Int) (s : Option Ms) (l m : List Int) : stateM eps s (l ++ m) = stateM eps (stateM eps s l) m := by simp [stateM, List.foldl_append]
theorem doneM_app (eps : Int) : ∀ (l m : List Int) (s : Option Ms), doneM eps s (l ++ m) = doneM eps s l ++ doneM eps (stateM eps s l) m
 | [], m, s => by simp [doneM, stateM]
 | v :: l, m, s => by
   simp only [List.cons_append, doneM, doneM_app eps l m, List.append_assoc]
   rfl
end
end Go.Proofs.Ythcnbpeeekkgkaa
