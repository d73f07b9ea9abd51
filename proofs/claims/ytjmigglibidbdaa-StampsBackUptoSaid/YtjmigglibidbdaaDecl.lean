/- A region that draws its order, whose operations only compute, make new variables and store into them whole: one walk serves every order. No condition; nothing of the program. -/
import Derived.Orders
import Derived.Below
import Derived.KernelRfl
namespace Go.Proofs.Ytjmigglibidbdaa
set_option linter.unusedVariables false
set_option linter.unusedSimpArgs false
open Go Go.RowKit
/-- What an operation does: it only yields a value; it makes a variable; it fills the variable that operation j made; it fills an elder variable (number k of them). -/
inductive Tag | q | al | st (j : Nat) | so (k : Nat)
  deriving DecidableEq
def tagOf (kd : List Tag) (i : Nat) : Tag := kd.getD i .q
def dstOf (l : List Oper) (i : Nat) : Option Tmp := (l[i]?).bind (·.dst)
def dep (o : Oper) (k : Nat) : Bool := o.after.any fun e => Region.binds .any e && e.on == k
/-- Operand x is settled before: whoever writes it is quiet and comes ahead. -/
def calm (l : List Oper) (kd : List Tag) (o : Oper) (x : Operand) : Bool :=
  match x with
  | .tmp t => (List.range l.length).all fun k => dstOf l k != some t || (dep o k && tagOf kd k == .q)
  | _ => true
def okOp (l : List Oper) (kd : List Tag) (i : Nat) : Bool :=
  match l[i]? with
  | none => false
  | some o => o.guard.isNone && (match o.op with | .select .. => false | _ => true) &&
    (o.after.all fun e => !Region.binds .any e || decide (e.on < i)) &&
    ((List.range l.length).all fun k => k == i || (match o.dst with | none => true | some d => dstOf l k != some d)) &&
    (match tagOf kd i with
      | .q => o.op.operands.all fun x => calm l kd o x
      | .al => true
      | .st j => (match o.op with
          | .store _ (.tmp t) x => o.dst.isNone && dstOf l j == some t && dep o j && tagOf kd j == .al && calm l kd o x && ((List.range l.length).all fun k => k == i || tagOf kd k != .st j)
          | _ => false)
      | .so c => (match o.op with
          | .store _ p x => o.dst.isNone && calm l kd o p && calm l kd o x && ((List.range l.length).all fun k => k == i || tagOf kd k != .so c)
          | _ => false))
/-- Operation i comes ahead of operation s, whatever the order. -/
def anc (l : List Oper) : Nat → Nat → Nat → Bool
  | 0, _, _ => false
  | n + 1, s, i => match l[s]? with
    | none => false
    | some o => dep o i || (List.range l.length).any fun k => dep o k && anc l n k i
def declB (l : List Oper) (kd : List Tag) : Bool := (List.range l.length).all fun i => okOp l kd i
def ptrTo (g : Nat) : Value := .pointer (some ⟨g, 0, none⟩)
/-- What operation i leaves in its slot. -/
def vl (kd : List Tag) (V : List Value) (G : Nat → Nat) (i : Nat) : Value :=
  match tagOf kd i with
  | .q => V.getD i undef
  | .al => ptrTo (G i)
  | _ => undef
def frm (l : List Oper) (kd : List Tag) (V : List Value) (G : Nat → Nat) (a0 : Act) (S : List Nat) : Act := S.foldl (fun a i => a.put (dstOf l i) (vl kd V G i)) a0
/-- The elder blocks are as they were, but those that are filled. -/
def Same (kd : List Tag) (tgt : Nat → Nat) (W w : World) : Prop := w.os = W.os ∧ w.tape = W.tape ∧ w.output = W.output ∧ W.heap.size ≤ w.heap.size ∧ ∀ k, k < W.heap.size → (∀ c, .so c ∈ kd → tgt c ≠ k) → w.heap[k]? = W.heap[k]?
/-- The operation yields v, the world as it was; or it is a call that returns v and makes new memory alone. -/
def qUpon (P : Program) (w : World) (v : Value) : Result Next → Prop
  | .ok (.value u) w' => w' = w ∧ u = v
  | .ok (.enter f args) w' => w' = w ∧ Calls P f args w (fun e w'' => e = .returned v ∧ Below w.heap.size w w'')
  | _ => False
def Quiet1 (P : Program) (C : World → Prop) (o : Oper) (a : Act) (v : Value) : Prop := ∀ w, C w → qUpon P w v ((execOp a.eval o).run P w)
/-- The store fills block g with f. -/
def Stores (P : Program) (ρ : Operand → Value) (o : Oper) (w : World) (g : Nat) (f : Obj) : Prop := ∃ w1, (execOp ρ o).run P w = .ok .skip w1 ∧ w1.heap[g]? = some f ∧ (∀ k, k ≠ g → w1.heap[k]? = w.heap[k]?) ∧ w1.heap.size = w.heap.size ∧ w1.os = w.os ∧ w1.tape = w.tape ∧ w1.output = w.output
/-- What is asked of operation i. -/
def OpRule (P : Program) (C : World → Prop) (l : List Oper) (kd : List Tag) (V : List Value) (zero full : Nat → Obj) (tgt : Nat → Nat) (W : World) (A : Act) (i : Nat) (o : Oper) : Prop :=
  match tagOf kd i with
  | .q => Quiet1 P (fun w => C w ∧ ∀ s c, tagOf kd s = .so c → anc l l.length s i = true → w.heap[tgt c]? = W.heap[tgt c]?) o A (V.getD i undef)
  | .al => ∀ (ρ : Operand → Value) (w : World), (execOp ρ o).run P w = .ok (.value (ptrTo w.heap.size)) (w.alloc (zero i))
  | .st j => match o.op with
    | .store _ t x => ∀ (ρ : Operand → Value) (w : World) (g : Nat), ρ t = ptrTo g → ρ x = A.eval x → w.heap[g]? = some (zero j) → Stores P ρ o w g (full i)
    | _ => False
  | .so c => match o.op with
    | .store _ p x => A.eval p = ptrTo (tgt c) ∧ ∀ (ρ : Operand → Value) (w : World), ρ p = ptrTo (tgt c) → ρ x = A.eval x → w.heap[tgt c]? = W.heap[tgt c]? → Stores P ρ o w (tgt c) (full i)
    | _ => False
def AllOps (R : Nat → Oper → Prop) : Nat → List Oper → Prop
  | i, o :: l => R i o ∧ AllOps R (i + 1) l
  | _, [] => True
theorem AllOps.get {R : Nat → Oper → Prop} : ∀ {l : List Oper} {k : Nat}, AllOps R k l → ∀ i o, l[i]? = some o → R (k + i) o
  | [], _, _, i, o, h => by simp at h
  | x :: l, k, hA, 0, o, h => by
    obtain rfl : x = o := by simpa using h
    exact hA.1
  | x :: l, k, hA, i + 1, o, h => by
    have := AllOps.get hA.2 i o (by simpa using h)
    rwa [Nat.add_assoc, Nat.add_comm 1 i] at this
structure DInv (l : List Oper) (kd : List Tag) (V : List Value) (zero full : Nat → Obj) (tgt : Nat → Nat) (a0 : Act) (W : World) (S : List Nat) (G : Nat → Nat) (w : World) : Prop where
  nd : S.Nodup
  inn : ∀ i ∈ S, i < l.length
  same : Same kd tgt W w
  made : ∀ i ∈ S, tagOf kd i = .al → W.heap.size ≤ G i ∧ G i < w.heap.size
  apart : ∀ i ∈ S, ∀ j ∈ S, tagOf kd i = .al → tagOf kd j = .al → G i = G j → i = j
  zeros : ∀ i ∈ S, tagOf kd i = .al → (∀ s ∈ S, tagOf kd s ≠ .st i) → w.heap[G i]? = some (zero i)
  fulls : ∀ s ∈ S, ∀ i, tagOf kd s = .st i → i ∈ S ∧ tagOf kd i = .al ∧ w.heap[G i]? = some (full s)
  olds : ∀ s, s < l.length → ∀ c, tagOf kd s = .so c → s ∉ S → w.heap[tgt c]? = W.heap[tgt c]?
  olds' : ∀ s ∈ S, ∀ c, tagOf kd s = .so c → w.heap[tgt c]? = some (full s)
  cl : ∀ s ∈ S, ∀ o, l[s]? = some o → ∀ k, dep o k = true → k ∈ S
section
variable {l : List Oper} {kd : List Tag} {V : List Value}
theorem frm_none (G : Nat → Nat) (t : Tmp) : ∀ (S : List Nat) (a0 : Act), (∀ k ∈ S, dstOf l k ≠ some t) → (frm l kd V G a0 S).tmps[t]? = a0.tmps[t]?
  | [], a0, _ => rfl
  | k :: S, a0, h => by
    show (frm l kd V G (a0.put (dstOf l k) (vl kd V G k)) S).tmps[t]? = _
    rw [frm_none G t S _ (fun j hj => h j (by simp [hj]))]
    have hk := h k (by simp)
    cases hd : dstOf l k with
    | none => rfl
    | some d =>
      have : d ≠ t := fun e => hk (by rw [hd, e])
      simp [Act.put, Array.getElem?_setIfInBounds_ne this]
theorem put_size (a : Act) (d : Option Tmp) (v : Value) : (a.put d v).tmps.size = a.tmps.size := by cases d <;> simp [Act.put]
theorem frm_some (G : Nat → Nat) (t : Tmp) (k : Nat) (hk : dstOf l k = some t) : ∀ (S : List Nat) (a0 : Act), S.Nodup → k ∈ S → (∀ j ∈ S, dstOf l j = some t → j = k) → (frm l kd V G a0 S).tmps[t]? = if t < a0.tmps.size then some (vl kd V G k) else none
  | [], a0, _, h, _ => by simp at h
  | j :: S, a0, hn, h, hu => by
    show (frm l kd V G (a0.put (dstOf l j) (vl kd V G j)) S).tmps[t]? = _
    obtain ⟨hj, hn'⟩ := List.nodup_cons.1 hn
    by_cases e : j = k
    · subst e
      rw [frm_none G t S _ (fun i hi he => hj (by rw [← hu i (by simp [hi]) he]; exact hi)), hk]
      simp [Act.put, Array.getElem?_setIfInBounds]
    · have hkS : k ∈ S := by
        rcases List.mem_cons.1 h with h | h
        · exact absurd h.symm e
        · exact h
      rw [frm_some G t k hk S _ hn' hkS (fun i hi he => hu i (by simp [hi]) he), put_size]
theorem frm_defers (G : Nat → Nat) : ∀ (S : List Nat) (a0 : Act), (frm l kd V G a0 S).defers = a0.defers
  | [], _ => rfl
  | k :: S, a0 => by
    show (frm l kd V G (a0.put (dstOf l k) (vl kd V G k)) S).defers = _
    rw [frm_defers G S]
    cases dstOf l k <;> rfl
theorem frm_congr (G G' : Nat → Nat) : ∀ (S : List Nat) (a0 : Act), (∀ i ∈ S, tagOf kd i = .al → G i = G' i) → frm l kd V G a0 S = frm l kd V G' a0 S
  | [], _, _ => rfl
  | k :: S, a0, h => by
    have e : vl kd V G k = vl kd V G' k := by
      unfold vl
      cases ht : tagOf kd k <;> simp only
      rw [h k (by simp) ht]
    show frm l kd V G (a0.put (dstOf l k) (vl kd V G k)) S = frm l kd V G' (a0.put (dstOf l k) (vl kd V G' k)) S
    rw [e]
    exact frm_congr G G' S _ (fun i hi => h i (by simp [hi]))
theorem frm_snoc (G : Nat → Nat) (a0 : Act) (S : List Nat) (i : Nat) : frm l kd V G a0 (S ++ [i]) = (frm l kd V G a0 S).put (dstOf l i) (vl kd V G i) := by
  unfold frm; rw [List.foldl_append]; rfl
/-- Every slot has one writer. -/
def OneWriter (l : List Oper) : Prop := ∀ i j t, dstOf l i = some t → dstOf l j = some t → i = j
theorem frm_perm (G : Nat → Nat) (a0 : Act) {S S' : List Nat} (h : S.Perm S') (h1 : OneWriter l) : frm l kd V G a0 S = frm l kd V G a0 S' := by
  unfold frm
  refine List.Perm.foldl_eq' h (fun x hx y hy a => ?_) a0
  by_cases e : x = y
  · subst e; rfl
  · exact Act.put_comm a _ _ (fun d hd hy => e (h1 x y d hd hy))
theorem one_writer (h : declB l kd = true) : OneWriter l := by
  intro i j t hi hj
  unfold declB at h
  rw [List.all_eq_true] at h
  have hil : i < l.length := by
    unfold dstOf at hi
    cases hx : l[i]? with
    | none => rw [hx] at hi; simp at hi
    | some o => exact (List.getElem?_eq_some_iff.1 hx).1
  have hjl : j < l.length := by
    unfold dstOf at hj
    cases hx : l[j]? with
    | none => rw [hx] at hj; simp at hj
    | some o => exact (List.getElem?_eq_some_iff.1 hx).1
  have := h i (List.mem_range.2 hil)
  unfold okOp at this
  rw [List.getElem?_eq_getElem hil] at this
  simp only [Bool.and_eq_true, List.all_eq_true] at this
  have hu := this.1.2 j (List.mem_range.2 hjl)
  have hd : l[i].dst = some t := by unfold dstOf at hi; rw [List.getElem?_eq_getElem hil] at hi; simpa using hi
  rw [hd] at hu
  simp [hj] at hu
  exact hu.symm
/-- What the Bool says of operation i. -/
theorem ok_spec (h : declB l kd = true) {i : Nat} {o : Oper} (ho : l[i]? = some o) : o.guard = none ∧ (∀ cs b, o.op ≠ .select cs b) ∧ (∀ e ∈ o.after, Region.binds .any e = true → e.on < i) ∧
    (tagOf kd i = .q → ∀ x ∈ o.op.operands, calm l kd o x = true) ∧
    (∀ j, tagOf kd i = .st j → ∃ T t x, o.op = .store T (.tmp t) x ∧ o.dst = none ∧ dstOf l j = some t ∧ dep o j = true ∧ tagOf kd j = .al ∧ calm l kd o x = true ∧ ∀ k, k < l.length → tagOf kd k = .st j → k = i) ∧
    (∀ c, tagOf kd i = .so c → ∃ T p x, o.op = .store T p x ∧ o.dst = none ∧ calm l kd o p = true ∧ calm l kd o x = true ∧ ∀ k, k < l.length → tagOf kd k = .so c → k = i) := by
  unfold declB at h
  rw [List.all_eq_true] at h
  have hil := (List.getElem?_eq_some_iff.1 ho).1
  have := h i (List.mem_range.2 hil)
  unfold okOp at this
  rw [ho] at this
  simp only [Bool.and_eq_true] at this
  obtain ⟨⟨⟨⟨h1, h2⟩, h3⟩, h4⟩, h5⟩ := this
  refine ⟨by simpa using h1, ?_, ?_, ?_, ?_, ?_⟩
  · intro cs b e
    rw [e] at h2; simp at h2
  · intro e he hb
    have := Array.all_eq_true_iff_forall_mem.1 h3 e he
    rw [hb] at this; simpa using this
  · intro ht
    simp only [ht] at h5
    intro x hx
    exact Array.all_eq_true_iff_forall_mem.1 h5 x hx
  · intro j ht
    simp only [ht] at h5
    split at h5
    · rename_i T t x hop
      simp only [Bool.and_eq_true, List.all_eq_true] at h5
      obtain ⟨⟨⟨⟨⟨g1, g2⟩, g3⟩, g4⟩, g5⟩, g6⟩ := h5
      refine ⟨T, t, x, hop, by simpa using g1, by simpa using g2, g3, by simpa using g4, g5, ?_⟩
      intro k hk hkt
      have := g6 k (List.mem_range.2 hk)
      rw [hkt] at this; simpa using this
    · simp at h5
  · intro c ht
    simp only [ht] at h5
    split at h5
    · rename_i T p x hop
      simp only [Bool.and_eq_true, List.all_eq_true] at h5
      obtain ⟨⟨⟨g1, g2⟩, g3⟩, g4⟩ := h5
      refine ⟨T, p, x, hop, by simpa using g1, g2, g3, ?_⟩
      intro k hk hkt
      have := g4 k (List.mem_range.2 hk)
      rw [hkt] at this; simpa using this
    · simp at h5
theorem dst_lt {k : Nat} {t : Tmp} (h : dstOf l k = some t) : k < l.length := by
  unfold dstOf at h
  cases hx : l[k]? with
  | none => rw [hx] at h; simp at h
  | some o => exact (List.getElem?_eq_some_iff.1 hx).1
/-- A settled operand has the value that it has in the end. -/
theorem eval_calm (hck : declB l kd = true) (G G' : Nat → Nat) (a0 : Act) {S : List Nat} (hS : S.Nodup) {o : Oper} (hdep : ∀ k, dep o k = true → k ∈ S) {x : Operand} (hx : calm l kd o x = true) :
    (frm l kd V G a0 S).eval x = (frm l kd V G' a0 (List.range l.length)).eval x := by
  have h1 := one_writer hck
  cases x with
  | tmp t =>
    simp only [calm, List.all_eq_true] at hx
    by_cases hw : ∃ k, dstOf l k = some t
    · obtain ⟨k, hk⟩ := hw
      have hkl := dst_lt hk
      have := hx k (List.mem_range.2 hkl)
      rw [hk] at this
      simp at this
      obtain ⟨hd, hq⟩ := this
      have e1 := frm_some (kd := kd) (V := V) G t k hk S a0 hS (hdep k hd) (fun j _ hj => h1 j k t hj hk)
      have e2 := frm_some (kd := kd) (V := V) G' t k hk (List.range l.length) a0 List.nodup_range (List.mem_range.2 hkl) (fun j _ hj => h1 j k t hj hk)
      have e3 : vl kd V G k = vl kd V G' k := by unfold vl; rw [hq]
      simp only [Act.eval, Array.getD_eq_getD_getElem?]
      rw [e1, e2, e3]
    · have e1 := frm_none (kd := kd) (V := V) G t S a0 (fun k _ e => hw ⟨k, e⟩)
      have e2 := frm_none (kd := kd) (V := V) G' t (List.range l.length) a0 (fun k _ e => hw ⟨k, e⟩)
      simp only [Act.eval, Array.getD_eq_getD_getElem?]
      rw [e1, e2]
  | _ => rfl
theorem ready_spec {listed : Array Bool} {i : Nat} (h : i ∈ Region.ready .any l.toArray listed) : ∃ o, l[i]? = some o ∧ listed.getD i true = false ∧ ∀ k, dep o k = true → listed.getD k false = true := by
  unfold Region.ready at h
  rw [List.mem_filter] at h
  obtain ⟨h1, h2⟩ := h
  simp only [Bool.and_eq_true] at h2
  obtain ⟨h2, h3⟩ := h2
  have hi : i < l.length := by simpa using h1
  refine ⟨l[i], List.getElem?_eq_getElem hi, by simpa using h2, ?_⟩
  intro k hk
  rw [List.getElem?_toArray, List.getElem?_eq_getElem hi] at h3
  simp only [Option.map_some, Option.getD_some] at h3
  unfold dep at hk
  rw [Array.any_eq_true'] at hk
  obtain ⟨e, he, hb⟩ := hk
  simp only [Bool.and_eq_true, beq_iff_eq] at hb
  have := Array.all_eq_true_iff_forall_mem.1 h3 e he
  rw [hb.1, hb.2] at this
  simpa using this
theorem ready_some (hck : declB l kd = true) {listed : Array Bool} {S : List Nat} (hL : ∀ j, j < l.length → (listed.getD j true = decide (j ∈ S)) ∧ listed.getD j false = decide (j ∈ S)) {m : Nat} (hm : m < l.length) (hmS : m ∉ S) : Region.ready .any l.toArray listed ≠ [] := by
  -- the least one that is not listed is ready
  induction m using Nat.strongRecOn with
  | ind m ih =>
    by_cases hlow : ∃ j, j < m ∧ j ∉ S
    · obtain ⟨j, hj, hjS⟩ := hlow
      exact ih j hj (by omega) hjS
    · intro he
      have : m ∈ Region.ready .any l.toArray listed := by
        unfold Region.ready
        rw [List.mem_filter]
        refine ⟨by simpa using hm, ?_⟩
        rw [List.getElem?_toArray, List.getElem?_eq_getElem hm]
        simp only [Option.map_some, Option.getD_some, Bool.and_eq_true]
        refine ⟨by rw [(hL m hm).1]; simpa using hmS, ?_⟩
        rw [Array.all_eq_true_iff_forall_mem]
        intro e hee
        cases hb : Region.binds .any e
        · rfl
        · have hlt := (ok_spec hck (List.getElem?_eq_getElem hm)).2.2.1 e hee hb
          have : e.on ∈ S := Classical.byContradiction fun hn => hlow ⟨e.on, hlt, hn⟩
          simp [(hL e.on (by omega)).2, this]
      rw [he] at this
      simp at this
theorem tag_mem {i : Nat} {c : Nat} (h : tagOf kd i = .so c) : Tag.so c ∈ kd := by
  unfold tagOf at h
  rw [List.getD_eq_getElem?_getD] at h
  cases hx : kd[i]? with
  | none => rw [hx] at h; simp at h
  | some t => rw [hx] at h; simp at h; rw [← h]; exact List.mem_of_getElem? hx
theorem kept {w w' : World} {k : Nat} {x : Obj} (h : Below w.heap.size w w') (e : w.heap[k]? = some x) : w'.heap[k]? = some x := by
  rw [h.block k (Array.getElem?_eq_some_iff.1 e).1]; exact e
theorem Same.below {tgt : Nat → Nat} {W w w' : World} (h : Same kd tgt W w) (k : Below w.heap.size w w') : Same kd tgt W w' :=
  ⟨k.os.trans h.1, k.tape.trans h.2.1, k.output.trans h.2.2.1, Nat.le_trans h.2.2.2.1 k.size, fun j hj hc => (k.block j (Nat.lt_of_lt_of_le hj h.2.2.2.1)).trans (h.2.2.2.2 j hj hc)⟩
variable {zero full : Nat → Obj} {tgt : Nat → Nat} {a0 : Act} {W : World} {S : List Nat} {G : Nat → Nat} {w : World}
theorem nodup_sub : ∀ (T S : List Nat), T.Nodup → (∀ x ∈ T, x ∈ S) → T.length ≤ S.length
  | [], _, _, _ => by simp
  | x :: T, S, hn, h => by
    obtain ⟨hx, hn'⟩ := List.nodup_cons.1 hn
    have h1 := h x (by simp)
    have h2 := nodup_sub T (S.erase x) hn' (fun y hy => (List.mem_erase_of_ne (fun e => hx (by rw [← e]; exact hy))).2 (h y (by simp [hy])))
    rw [List.length_erase_of_mem h1] at h2
    have h3 : 0 < S.length := List.length_pos_of_mem h1
    simp only [List.length_cons]
    omega
theorem nodup_snoc {i : Nat} (h : S.Nodup) (hi : i ∉ S) : (S ++ [i]).Nodup := by
  rw [List.nodup_append]
  refine ⟨h, by simp, ?_⟩
  intro a ha b hb
  simp at hb
  subst hb
  intro e; subst e; exact hi ha
theorem anc_in (hc : ∀ s ∈ S, ∀ o, l[s]? = some o → ∀ k, dep o k = true → k ∈ S) : ∀ (n s i : Nat), s ∈ S → anc l n s i = true → i ∈ S
  | 0, _, _, _, h => by simp [anc] at h
  | n + 1, s, i, hs, h => by
    unfold anc at h
    split at h
    · simp at h
    · rename_i o ho
      simp only [Bool.or_eq_true, List.any_eq_true, Bool.and_eq_true] at h
      rcases h with h | ⟨k, _, hk, h⟩
      · exact hc s hs o ho i h
      · exact anc_in hc n k i (hc s hs o ho k hk) h
theorem anc_lt {n s i : Nat} (h : anc l n s i = true) : s < l.length := by
  cases n with
  | zero => simp [anc] at h
  | succ n =>
    unfold anc at h
    split at h
    · simp at h
    · rename_i o ho
      exact (List.getElem?_eq_some_iff.1 ho).1
theorem cl_snoc {i : Nat} (hc : ∀ s ∈ S, ∀ o, l[s]? = some o → ∀ k, dep o k = true → k ∈ S) (hi : ∀ o, l[i]? = some o → ∀ k, dep o k = true → k ∈ S) : ∀ s ∈ S ++ [i], ∀ o, l[s]? = some o → ∀ k, dep o k = true → k ∈ S ++ [i] := by
  intro s hs o ho k hk
  rcases List.mem_append.1 hs with h | h
  · exact List.mem_append.2 (Or.inl (hc s h o ho k hk))
  · simp at h; subst h
    exact List.mem_append.2 (Or.inl (hi o ho k hk))
theorem inv_q (hI : DInv l kd V zero full tgt a0 W S G w) (htg : ∀ c, Tag.so c ∈ kd → tgt c < W.heap.size) {i : Nat} (hi : i < l.length) (hn : i ∉ S) (ht : tagOf kd i = .q) (hcl : ∀ o, l[i]? = some o → ∀ k, dep o k = true → k ∈ S) {w' : World} (hB : Below w.heap.size w w') : DInv l kd V zero full tgt a0 W (S ++ [i]) G w' := by
  have hm : ∀ s t, s ∈ S ++ [i] → tagOf kd s = t → t ≠ .q → s ∈ S := by
    intro s t hs h1 h2
    rcases List.mem_append.1 hs with h | h
    · exact h
    · simp at h; subst h; exact absurd (ht.symm.trans h1).symm h2
  have hsz := hB.size
  refine ⟨nodup_snoc hI.nd hn, ?_, hI.same.below hB, ?_, ?_, ?_, ?_, ?_, ?_, cl_snoc hI.cl hcl⟩
  · intro j hj
    rcases List.mem_append.1 hj with h | h
    · exact hI.inn j h
    · simp at h; subst h; exact hi
  · intro j hj hjt
    have := hI.made j (hm j _ hj hjt (by simp)) hjt
    omega
  · intro j hj k hk h1 h2 h3
    exact hI.apart j (hm j _ hj h1 (by simp)) k (hm k _ hk h2 (by simp)) h1 h2 h3
  · intro j hj hjt hno
    exact kept hB (hI.zeros j (hm j _ hj hjt (by simp)) hjt (fun s hs => hno s (by simp [hs])))
  · intro s hs j hst
    obtain ⟨h1, h2, h3⟩ := hI.fulls s (hm s _ hs hst (by simp)) j hst
    exact ⟨by simp [h1], h2, kept hB h3⟩
  · intro s hs c hc hns
    have h := hI.olds s hs c hc (fun h => hns (by simp [h]))
    rw [hB.block _ (Nat.lt_of_lt_of_le (htg c (tag_mem hc)) hI.same.2.2.2.1)]
    exact h
  · intro s hs c hc
    exact kept hB (hI.olds' s (hm s _ hs hc (by simp)) c hc)
theorem below_alloc (w : World) (o : Obj) : Below w.heap.size w (w.alloc o) := (Below.refl _ _).alloc (Nat.le_refl _) o
theorem inv_al (hI : DInv l kd V zero full tgt a0 W S G w) (htg : ∀ c, Tag.so c ∈ kd → tgt c < W.heap.size) (hck : declB l kd = true) {i : Nat} (hi : i < l.length) (hn : i ∉ S) (ht : tagOf kd i = .al) (hcl : ∀ o, l[i]? = some o → ∀ k, dep o k = true → k ∈ S) : DInv l kd V zero full tgt a0 W (S ++ [i]) (fun k => if k = i then w.heap.size else G k) (w.alloc (zero i)) := by
  have hB := below_alloc w (zero i)
  have hne : ∀ j, j ∈ S → j ≠ i := fun j hj e => hn (e ▸ hj)
  have hsz : (w.alloc (zero i)).heap.size = w.heap.size + 1 := by simp
  have hcase : ∀ j, j ∈ S ++ [i] → j ∈ S ∨ j = i := by intro j hj; simpa using hj
  have hnew : (w.alloc (zero i)).heap[w.heap.size]? = some (zero i) := Array.getElem?_push_size
  refine ⟨nodup_snoc hI.nd hn, ?_, hI.same.below hB, ?_, ?_, ?_, ?_, ?_, ?_, cl_snoc hI.cl hcl⟩
  · intro j hj
    rcases hcase j hj with h | h
    · exact hI.inn j h
    · subst h; exact hi
  · intro j hj hjt
    rcases hcase j hj with h | h
    · have := hI.made j h hjt
      rw [if_neg (hne j h)]; omega
    · subst h
      have := hI.same.2.2.2.1
      simp only [if_true]; omega
  · intro j hj k hk h1 h2 h3
    rcases hcase j hj with qj | qj <;> rcases hcase k hk with qk | qk
    · simp only [if_neg (hne j qj), if_neg (hne k qk)] at h3
      exact hI.apart j qj k qk h1 h2 h3
    · subst qk
      simp only [if_neg (hne j qj), if_true] at h3
      have := (hI.made j qj h1).2
      omega
    · subst qj
      simp only [if_neg (hne k qk), if_true] at h3
      have := (hI.made k qk h2).2
      omega
    · rw [qj, qk]
  · intro j hj hjt hno
    rcases hcase j hj with hj | hj
    · simp only [if_neg (hne j hj)]
      exact kept hB (hI.zeros j hj hjt (fun s hs => hno s (by simp [hs])))
    · subst hj
      simp only [if_true]; exact hnew
  · intro s hs j hst
    rcases hcase s hs with hs' | hs'
    · obtain ⟨h1, h2, h3⟩ := hI.fulls s hs' j hst
      refine ⟨by simp [h1], h2, ?_⟩
      simp only [if_neg (hne j h1)]
      exact kept hB h3
    · subst hs'; rw [ht] at hst; simp at hst
  · intro s hs c hc hns
    have h := hI.olds s hs c hc (fun h => hns (by simp [h]))
    rw [hB.block _ (Nat.lt_of_lt_of_le (htg c (tag_mem hc)) hI.same.2.2.2.1)]
    exact h
  · intro s hs c hc
    rcases hcase s hs with hs' | hs'
    · exact kept hB (hI.olds' s hs' c hc)
    · subst hs'; rw [ht] at hc; simp at hc
/-- The world after a store that fills block g. -/
def Filled (w w1 : World) (g : Nat) (f : Obj) : Prop := w1.heap[g]? = some f ∧ (∀ k, k ≠ g → w1.heap[k]? = w.heap[k]?) ∧ w1.heap.size = w.heap.size ∧ w1.os = w.os ∧ w1.tape = w.tape ∧ w1.output = w.output
theorem inv_st (hI : DInv l kd V zero full tgt a0 W S G w) (htg : ∀ c, Tag.so c ∈ kd → tgt c < W.heap.size) (hck : declB l kd = true) {i j : Nat} {o : Oper} (ho : l[i]? = some o) (hn : i ∉ S) (ht : tagOf kd i = .st j) (hj : j ∈ S) (hcl : ∀ o, l[i]? = some o → ∀ k, dep o k = true → k ∈ S) {w1 : World} (hF : Filled w w1 (G j) (full i)) : DInv l kd V zero full tgt a0 W (S ++ [i]) G w1 := by
  have hil := (List.getElem?_eq_some_iff.1 ho).1
  obtain ⟨_, _, _, _, hst, _⟩ := ok_spec hck ho
  obtain ⟨T, t, x, _, _, _, _, hal, _, huniq⟩ := hst j ht
  obtain ⟨f1, f2, f3, f4, f5, f6⟩ := hF
  have hcase : ∀ k, k ∈ S ++ [i] → k ∈ S ∨ k = i := by intro k hk; simpa using hk
  have hjm := hI.made j hj hal
  have htag : ∀ k, k ∈ S ++ [i] → tagOf kd k = .al → k ∈ S := by
    intro k hk hkt
    rcases hcase k hk with h | h
    · exact h
    · subst h; rw [ht] at hkt; simp at hkt
  have hold : ∀ k, k < W.heap.size → w1.heap[k]? = w.heap[k]? := fun k hk => f2 k (by omega)
  refine ⟨nodup_snoc hI.nd hn, ?_, ⟨f4.trans hI.same.1, f5.trans hI.same.2.1, f6.trans hI.same.2.2.1, by have := hI.same.2.2.2.1; omega, fun k hk hc => (hold k hk).trans (hI.same.2.2.2.2 k hk hc)⟩, ?_, ?_, ?_, ?_, ?_, ?_, cl_snoc hI.cl hcl⟩
  · intro k hk
    rcases hcase k hk with h | h
    · exact hI.inn k h
    · subst h; exact hil
  · intro k hk hkt
    have := hI.made k (htag k hk hkt) hkt
    omega
  · intro k hk m hm h1 h2 h3
    exact hI.apart k (htag k hk h1) m (htag m hm h2) h1 h2 h3
  · intro k hk hkt hno
    have hkS := htag k hk hkt
    have hkj : k ≠ j := by
      intro e; subst e
      exact hno i (by simp) ht
    rw [f2 (G k) (fun e => hkj (hI.apart k hkS j hj hkt hal e))]
    exact hI.zeros k hkS hkt (fun s hs => hno s (by simp [hs]))
  · intro s hs k hst'
    rcases hcase s hs with hs' | hs'
    · obtain ⟨h1, h2, h3⟩ := hI.fulls s hs' k hst'
      have hkj : k ≠ j := by
        intro e; subst e
        have := huniq s (hI.inn s hs') hst'
        exact hn (this ▸ hs')
      refine ⟨by simp [h1], h2, ?_⟩
      rw [f2 (G k) (fun e => hkj (hI.apart k h1 j hj h2 hal e))]
      exact h3
    · subst hs'
      rw [ht] at hst'
      obtain rfl : j = k := by simpa using hst'
      exact ⟨by simp [hj], hal, f1⟩
  · intro s hs c hc hns
    rw [hold _ (htg c (tag_mem hc))]
    exact hI.olds s hs c hc (fun h => hns (by simp [h]))
  · intro s hs c hc
    rcases hcase s hs with hs' | hs'
    · rw [hold _ (htg c (tag_mem hc))]
      exact hI.olds' s hs' c hc
    · subst hs'; rw [ht] at hc; simp at hc
theorem inv_so (hI : DInv l kd V zero full tgt a0 W S G w) (htg : ∀ c, Tag.so c ∈ kd → tgt c < W.heap.size) (htd : ∀ c c', Tag.so c ∈ kd → Tag.so c' ∈ kd → tgt c = tgt c' → c = c') (hck : declB l kd = true) {i c : Nat} {o : Oper} (ho : l[i]? = some o) (hn : i ∉ S) (ht : tagOf kd i = .so c) (hcl : ∀ o, l[i]? = some o → ∀ k, dep o k = true → k ∈ S) {w1 : World} (hF : Filled w w1 (tgt c) (full i)) : DInv l kd V zero full tgt a0 W (S ++ [i]) G w1 := by
  have hil := (List.getElem?_eq_some_iff.1 ho).1
  obtain ⟨_, _, _, _, _, hso⟩ := ok_spec hck ho
  obtain ⟨T, p, x, _, _, _, _, huniq⟩ := hso c ht
  obtain ⟨f1, f2, f3, f4, f5, f6⟩ := hF
  have hcm := tag_mem ht
  have hcl0 := htg c hcm
  have hcase : ∀ k, k ∈ S ++ [i] → k ∈ S ∨ k = i := by intro k hk; simpa using hk
  have htag : ∀ k, k ∈ S ++ [i] → tagOf kd k = .al → k ∈ S := by
    intro k hk hkt
    rcases hcase k hk with h | h
    · exact h
    · subst h; rw [ht] at hkt; simp at hkt
  have hnew : ∀ k, k ∈ S → tagOf kd k = .al → w1.heap[G k]? = w.heap[G k]? := fun k hk hkt => f2 _ (by have := (hI.made k hk hkt).1; omega)
  refine ⟨nodup_snoc hI.nd hn, ?_, ⟨f4.trans hI.same.1, f5.trans hI.same.2.1, f6.trans hI.same.2.2.1, by have := hI.same.2.2.2.1; omega, fun k hk hc => (f2 k (fun e => hc c hcm e.symm)).trans (hI.same.2.2.2.2 k hk hc)⟩, ?_, ?_, ?_, ?_, ?_, ?_, cl_snoc hI.cl hcl⟩
  · intro k hk
    rcases hcase k hk with h | h
    · exact hI.inn k h
    · subst h; exact hil
  · intro k hk hkt
    have := hI.made k (htag k hk hkt) hkt
    omega
  · intro k hk m hm h1 h2 h3
    exact hI.apart k (htag k hk h1) m (htag m hm h2) h1 h2 h3
  · intro k hk hkt hno
    rw [hnew k (htag k hk hkt) hkt]
    exact hI.zeros k (htag k hk hkt) hkt (fun s hs => hno s (by simp [hs]))
  · intro s hs k hst'
    rcases hcase s hs with hs' | hs'
    · obtain ⟨h1, h2, h3⟩ := hI.fulls s hs' k hst'
      exact ⟨by simp [h1], h2, by rw [hnew k h1 h2]; exact h3⟩
    · subst hs'; rw [ht] at hst'; simp at hst'
  · intro s hs c' hc hns
    have hne : c' ≠ c := by
      intro e; subst e
      have := huniq s hs hc
      subst this; exact hns (by simp)
    rw [f2 _ (fun e => hne (htd c' c (tag_mem hc) hcm e))]
    exact hI.olds s hs c' hc (fun h => hns (by simp [h]))
  · intro s hs c' hc
    rcases hcase s hs with hs' | hs'
    · have hne : c' ≠ c := by
        intro e; subst e
        have := huniq s (hI.inn s hs') hc
        exact hn (this ▸ hs')
      rw [f2 _ (fun e => hne (htd c' c (tag_mem hc) hcm e))]
      exact hI.olds' s hs' c' hc
    · subst hs'
      rw [ht] at hc
      obtain rfl : c = c' := by simpa using hc
      exact f1
def dstB (l : List Oper) (n : Nat) : Bool := l.all fun o => match o.dst with | some d => decide (d < n) | none => true
theorem dst_in {n : Nat} (h : dstB l n = true) {i : Nat} {t : Tmp} (ht : dstOf l i = some t) : t < n := by
  unfold dstB at h
  rw [List.all_eq_true] at h
  have hi := dst_lt ht
  have := h l[i] (List.getElem_mem hi)
  have hd : l[i].dst = some t := by unfold dstOf at ht; rw [List.getElem?_eq_getElem hi] at ht; simpa using ht
  rw [hd] at this
  simpa using this
variable {P : Program} {Q : Exit → Act → World → Prop} {C : World → Prop}
theorem step_any (hck : declB l kd = true) (hdst : dstB l a0.tmps.size = true) (htg : ∀ c, Tag.so c ∈ kd → tgt c < W.heap.size) (htd : ∀ c c', Tag.so c ∈ kd → Tag.so c' ∈ kd → tgt c = tgt c' → c = c') (hC : ∀ w, Same kd tgt W w → C w) (G0 : Nat → Nat)
    (hops : AllOps (OpRule P C l kd V zero full tgt W (frm l kd V G0 a0 (List.range l.length))) 0 l)
    (hI : DInv l kd V zero full tgt a0 W S G w) {i : Nat} {o : Oper} (ho : l[i]? = some o) (hn : i ∉ S) (hdep : ∀ k, dep o k = true → k ∈ S)
    {K : Act → World → Prop} (hK : ∀ G' w', DInv l kd V zero full tgt a0 W (S ++ [i]) G' w' → K (frm l kd V G' a0 (S ++ [i])) w') :
    wpOp P l.toArray Q i K (frm l kd V G a0 S) w := by
  have hil := (List.getElem?_eq_some_iff.1 ho).1
  obtain ⟨hg, hs, _, hq, hst, hso⟩ := ok_spec hck ho
  have hrule := hops.get i o ho
  rw [Nat.zero_add] at hrule
  have hd : dstOf l i = o.dst := by unfold dstOf; rw [ho]; rfl
  have hcl : ∀ o, l[i]? = some o → ∀ k, dep o k = true → k ∈ S := by
    intro o' ho' k hk
    rw [ho] at ho'
    obtain rfl : o = o' := by simpa using ho'
    exact hdep k hk
  have hev : ∀ x, calm l kd o x = true → (frm l kd V G a0 S).eval x = (frm l kd V G0 a0 (List.range l.length)).eval x := fun x hx => eval_calm hck G G0 a0 hI.nd hdep hx
  unfold wpOp
  rw [List.getElem?_toArray, ho]
  simp only
  have hw : Region.wanted o (yielded l.toArray (frm l kd V G a0 S).tmps) = true := by unfold Region.wanted; rw [hg]
  rw [if_pos hw]
  refine Or.inl ?_
  unfold Oper.wp
  cases ht : tagOf kd i with
  | q =>
    unfold OpRule at hrule
    rw [ht] at hrule
    have h1 := hrule w ⟨hC w hI.same, fun s c hsc ha => hI.olds s (anc_lt ha) c hsc fun hs => hn (anc_in hI.cl _ s i hs ha)⟩
    rw [← execOp_congr o hs (fun x hx => hev x (hq ht x hx))] at h1
    have hv : vl kd V G i = V.getD i undef := by unfold vl; rw [ht]
    have hend : ∀ w', Below w.heap.size w w' → K ((frm l kd V G a0 S).put o.dst (V.getD i undef)) w' := by
      intro w' hB
      have := hK G w' (inv_q hI htg hil hn ht hcl hB)
      rw [frm_snoc, hd, hv] at this
      exact this
    generalize (execOp (frm l kd V G a0 S).eval o).run P w = r at h1 ⊢
    cases r with
    | ok n w' =>
      cases n <;> simp only [qUpon, Oper.upon] at h1 ⊢
      · obtain ⟨rfl, rfl⟩ := h1
        exact hend _ (Below.refl _ _)
      · obtain ⟨rfl, h2⟩ := h1
        refine h2.mono ?_
        rintro e w'' ⟨rfl, hB⟩
        exact hend w'' hB
    | halt x w' => simp only [qUpon] at h1
  | al =>
    unfold OpRule at hrule
    rw [ht] at hrule
    rw [hrule]
    simp only [Oper.upon]
    have := hK _ _ (inv_al hI htg hck hil hn ht hcl)
    rw [frm_snoc, hd, ← frm_congr G (fun k => if k = i then w.heap.size else G k) S a0 (fun k hk _ => by have e : k ≠ i := (fun e => hn (by rw [← e]; exact hk)); rw [if_neg e])] at this
    have hv : vl kd V (fun k => if k = i then w.heap.size else G k) i = ptrTo w.heap.size := by unfold vl; rw [ht]; simp
    rw [hv] at this
    exact this
  | st j =>
    obtain ⟨T, t, x, hop, hod, hdj, hdepj, hal, hcx, _⟩ := hst j ht
    unfold OpRule at hrule
    simp only [ht, hop] at hrule
    have hjS := hdep j hdepj
    have hp : (frm l kd V G a0 S).eval (.tmp t) = ptrTo (G j) := by
      have e1 := frm_some (kd := kd) (V := V) G t j hdj S a0 hI.nd hjS (fun k _ hk => one_writer hck k j t hk hdj)
      rw [if_pos (dst_in hdst hdj)] at e1
      simp only [Act.eval, Array.getD_eq_getD_getElem?]
      rw [e1]
      unfold vl; rw [hal]; rfl
    have hz := hI.zeros j hjS hal (fun s hs e => by
      obtain ⟨_, _, _, _, hst', _⟩ := ok_spec hck ho
      obtain ⟨_, _, _, _, _, _, _, _, _, hu⟩ := hst' j ht
      have := hu s (hI.inn s hs) e
      exact hn (this ▸ hs))
    obtain ⟨w1, hr, hF⟩ := hrule (frm l kd V G a0 S).eval w (G j) hp (hev x hcx) hz
    rw [hr]
    simp only [Oper.upon]
    have := hK G w1 (inv_st hI htg hck ho hn ht hjS hcl hF)
    have hv : vl kd V G i = undef := by unfold vl; rw [ht]
    rw [frm_snoc, hd, hv] at this
    exact this
  | so c =>
    obtain ⟨T, p, x, hop, hod, hcp, hcx, _⟩ := hso c ht
    unfold OpRule at hrule
    simp only [ht, hop] at hrule
    obtain ⟨hpA, hrule⟩ := hrule
    obtain ⟨w1, hr, hF⟩ := hrule (frm l kd V G a0 S).eval w ((hev p hcp).trans hpA) (hev x hcx) (hI.olds i hil c ht hn)
    rw [hr]
    simp only [Oper.upon]
    have := hK G w1 (inv_so hI htg htd hck ho hn ht hcl hF)
    have hv : vl kd V G i = undef := by unfold vl; rw [ht]
    rw [frm_snoc, hd, hv] at this
    exact this
theorem any_of_decl (hck : declB l kd = true) (hdst : dstB l a0.tmps.size = true) (htg : ∀ c, Tag.so c ∈ kd → tgt c < W.heap.size) (htd : ∀ c c', Tag.so c ∈ kd → Tag.so c' ∈ kd → tgt c = tgt c' → c = c') (hC : ∀ w, Same kd tgt W w → C w) (G0 : Nat → Nat)
    (hops : AllOps (OpRule P C l kd V zero full tgt W (frm l kd V G0 a0 (List.range l.length))) 0 l)
    (hend : ∀ G w, DInv l kd V zero full tgt a0 W (List.range l.length) G w → Q .normal (frm l kd V G a0 (List.range l.length)) w) :
    ∀ (fuel : Nat) (S : List Nat) (G : Nat → Nat) (w : World) (listed : Array Bool), listed.size = l.length → (∀ j, j < l.length → (listed.getD j true = decide (j ∈ S)) ∧ listed.getD j false = decide (j ∈ S)) → DInv l kd V zero full tgt a0 W S G w → S.length + fuel = l.length → wpAny P .any l.toArray Q fuel listed (frm l kd V G a0 S) w := by
  have h1 := one_writer hck
  intro fuel
  induction fuel with
  | zero =>
    intro S G w listed hsz hL hI hlen
    -- all are listed
    have hall : ∀ m, m < l.length → m ∈ S := by
      intro m hm
      refine Classical.byContradiction fun hn => ?_
      have h2 := nodup_sub (m :: S) (List.range l.length) (List.nodup_cons.2 ⟨hn, hI.nd⟩) (fun k hk => by
        rcases List.mem_cons.1 hk with h | h
        · subst h; exact List.mem_range.2 hm
        · exact List.mem_range.2 (hI.inn k h))
      simp at h2
      omega
    have hperm : S.Perm (List.range l.length) := (List.perm_ext_iff_of_nodup hI.nd List.nodup_range).2 (fun k => ⟨fun h => List.mem_range.2 (hI.inn k h), fun h => hall k (List.mem_range.1 h)⟩)
    refine ⟨?_, ?_⟩
    · cases hr : Region.ready .any l.toArray listed with
      | nil => rfl
      | cons i r =>
        obtain ⟨o, ho, hli, _⟩ := ready_spec (show i ∈ Region.ready .any l.toArray listed by rw [hr]; simp)
        have hi := (List.getElem?_eq_some_iff.1 ho).1
        rw [(hL i hi).1] at hli
        simp [hall i hi] at hli
    · rw [frm_perm G a0 hperm h1]
      refine hend G w ⟨List.nodup_range, fun i hi => List.mem_range.1 hi, hI.same, fun i hi => hI.made i (hperm.mem_iff.2 hi), fun i hi j hj => hI.apart i (hperm.mem_iff.2 hi) j (hperm.mem_iff.2 hj), fun i hi ht hs => hI.zeros i (hperm.mem_iff.2 hi) ht (fun s hs' => hs s (hperm.mem_iff.1 hs')), fun s hs i hi => ?_, fun s hs c hc hn => hI.olds s hs c hc (fun h => hn (hperm.mem_iff.1 h)), fun s hs => hI.olds' s (hperm.mem_iff.2 hs), fun s hs o ho k hk => List.mem_range.2 (hI.inn k (hI.cl s (hperm.mem_iff.2 hs) o ho k hk))⟩
      obtain ⟨a, b, c⟩ := hI.fulls s (hperm.mem_iff.2 hs) i hi
      exact ⟨hperm.mem_iff.1 a, b, c⟩
  | succ fuel ih =>
    intro S G w listed hsz hL hI hlen
    refine ⟨?_, ?_⟩
    · intro hr
      have : ∃ m, m < l.length ∧ m ∉ S := by
        apply Classical.byContradiction
        intro hno
        have := nodup_sub (List.range l.length) S List.nodup_range (fun m hm => Classical.byContradiction fun hn => hno ⟨m, List.mem_range.1 hm, hn⟩)
        simp at this
        omega
      obtain ⟨m, hm, hmS⟩ := this
      exact absurd hr (ready_some hck hL hm hmS)
    · intro i hi
      obtain ⟨o, ho, hli, hdep⟩ := ready_spec hi
      have hil := (List.getElem?_eq_some_iff.1 ho).1
      have hn : i ∉ S := by
        intro h
        rw [(hL i hil).1] at hli
        simp [h] at hli
      have hdep' : ∀ k, dep o k = true → k ∈ S := by
        intro k hk
        have h2 := hdep k hk
        by_cases hkl : k < l.length
        · rw [(hL k hkl).2] at h2
          simpa using h2
        · rw [Array.getD_eq_getD_getElem?, Array.getElem?_eq_none (by omega)] at h2
          simp at h2
      refine step_any hck hdst htg htd hC G0 hops hI ho hn hdep' ?_
      intro G' w' hI'
      refine ih (S ++ [i]) G' w' _ (by simpa using hsz) ?_ hI' (by simp; omega)
      intro j hj
      have hjs : j < listed.size := by omega
      by_cases e : j = i
      · subst e
        simp [Array.getD_eq_getD_getElem?, hjs]
      · have e' : i ≠ j := fun h => e h.symm
        have := hL j hj
        simp only [Array.getD_eq_getD_getElem?] at this ⊢
        rw [Array.getElem?_setIfInBounds_ne e']
        simpa [e] using this
/-- **A region that draws its order, whose operations only yield values, make variables and fill them whole: what is asked of each operation is asked once, at the frame of the end.** -/
theorem wp_region_decl {id : Nat} (kd : List Tag) (V : List Value) (zero full : Nat → Obj) (tgt : Nat → Nat) (C : World → Prop) (hm : P.follows .mixedOrders = true) (hck : declB l kd = true) (hdst : dstB l a0.tmps.size = true) (htg : ∀ c, Tag.so c ∈ kd → tgt c < W.heap.size) (htd : ∀ c c', Tag.so c ∈ kd → Tag.so c' ∈ kd → tgt c = tgt c' → c = c') (hC : ∀ w, Same kd tgt W w → C w) (G0 : Nat → Nat)
    (hops : AllOps (OpRule P C l kd V zero full tgt W (frm l kd V G0 a0 (List.range l.length))) 0 l)
    (hend : ∀ G w, DInv l kd V zero full tgt a0 W (List.range l.length) G w → Q .normal (frm l kd V G a0 (List.range l.length)) w) :
    (Code.region id l.toArray true).wp P Q a0 W := by
  refine wp_region_any hm ?_
  have h := any_of_decl (Q := Q) hck hdst htg htd hC G0 hops hend l.length [] (fun _ => 0) { W with drawn := W.drawn + 1 } (Array.replicate l.length false) (by simp) (fun j hj => by simp [Array.getD_eq_getD_getElem?, hj]) ?_ (by simp)
  · simpa [frm] using h
  · exact ⟨List.nodup_nil, by simp, ⟨rfl, rfl, rfl, Nat.le_refl _, fun _ _ _ => rfl⟩, by simp, by simp, by simp, by simp, fun s hs c hc _ => rfl, by simp, by simp⟩
def slotV (t : Tag) (v : Value) (g : Nat) : Value := match t with | .q => v | .al => ptrTo g | _ => undef
/-- The frame of the end, operation by operation. -/
def putAll : List Oper → List Tag → List Value → (Nat → Nat) → Nat → Act → Act
  | o :: l, t :: kd, v :: V, G, i, a => putAll l kd V G (i + 1) (a.put o.dst (slotV t v (G i)))
  | _, _, _, _, _, a => a
theorem putAll_eq (l : List Oper) (kd : List Tag) (V : List Value) (G : Nat → Nat) : ∀ (l' : List Oper) (kd' : List Tag) (V' : List Value) (k : Nat) (a : Act), (∀ i, l'[i]? = l[k + i]?) → (∀ i, kd'[i]? = kd[k + i]?) → (∀ i, V'[i]? = V[k + i]?) → kd'.length = l'.length → V'.length = l'.length → putAll l' kd' V' G k a = (List.range' k l'.length).foldl (fun a i => a.put (dstOf l i) (vl kd V G i)) a
  | [], [], [], k, a, _, _, _, _, _ => rfl
  | o :: l', t :: kd', v :: V', k, a, h1, h2, h3, h4, h5 => by
    have e1 : l[k]? = some o := by have := h1 0; simpa using this.symm
    have e2 : kd[k]? = some t := by have := h2 0; simpa using this.symm
    have e3 : V[k]? = some v := by have := h3 0; simpa using this.symm
    have ed : dstOf l k = o.dst := by unfold dstOf; rw [e1]; rfl
    have et : tagOf kd k = t := by unfold tagOf; rw [List.getD_eq_getElem?_getD, e2]; rfl
    have eV : V.getD k undef = v := by rw [List.getD_eq_getElem?_getD, e3]; rfl
    have ev : vl kd V G k = slotV t v (G k) := by
      unfold vl; rw [et, eV]; cases t <;> rfl
    rw [putAll, List.length_cons, List.range'_succ, List.foldl_cons, ed, ev]
    exact putAll_eq l kd V G l' kd' V' (k + 1) _ (fun i => by have := h1 (i + 1); rw [Nat.add_assoc, Nat.add_comm 1 i]; simpa using this) (fun i => by have := h2 (i + 1); rw [Nat.add_assoc, Nat.add_comm 1 i]; simpa using this) (fun i => by have := h3 (i + 1); rw [Nat.add_assoc, Nat.add_comm 1 i]; simpa using this) (by simpa using h4) (by simpa using h5)
  | [], _ :: _, _, _, _, _, _, _, h, _ => by simp at h
  | [], [], _ :: _, _, _, _, _, _, _, h => by simp at h
  | _ :: _, [], _, _, _, _, _, _, h, _ => by simp at h
  | _ :: _, _ :: _, [], _, _, _, _, _, _, h => by simp at h
theorem frm_putAll (a0 : Act) (h4 : kd.length = l.length) (h5 : V.length = l.length) : frm l kd V G a0 (List.range l.length) = putAll l kd V G 0 a0 := by
  rw [putAll_eq l kd V G l kd V 0 a0 (by simp) (by simp) (by simp) h4 h5, List.range_eq_range']
  rfl
theorem wp_decl {id : Nat} (kd : List Tag) (V : List Value) (zero full : Nat → Obj) (tgt : Nat → Nat) (hm : P.follows .mixedOrders = true) (hck : declB l kd = true) (hdst : dstB l a0.tmps.size = true) (h4 : kd.length = l.length) (h5 : V.length = l.length) (htg : ∀ c, Tag.so c ∈ kd → tgt c < W.heap.size) (htd : ∀ c c', Tag.so c ∈ kd → Tag.so c' ∈ kd → tgt c = tgt c' → c = c')
    (hops : AllOps (OpRule P (Same kd tgt W) l kd V zero full tgt W (putAll l kd V (fun _ => 0) 0 a0)) 0 l)
    (hend : ∀ G w, DInv l kd V zero full tgt a0 W (List.range l.length) G w → Q .normal (putAll l kd V G 0 a0) w) :
    (Code.region id l.toArray true).wp P Q a0 W :=
  wp_region_decl kd V zero full tgt (Same kd tgt W) hm hck hdst htg htd (fun _ h => h) (fun _ => 0) (by rw [frm_putAll a0 h4 h5]; exact hops) (fun G w hI => by rw [frm_putAll a0 h4 h5]; exact hend G w hI)
theorem Same.block {W w : World} (h : Same kd tgt W w) {g : Nat} {x : Obj} (hx : W.heap[g]? = some x) (hc : ∀ c, Tag.so c ∈ kd → tgt c ≠ g) : w.heap[g]? = some x := by
  rw [h.2.2.2.2 g (Array.getElem?_eq_some_iff.1 hx).1 hc]; exact hx
theorem Same.ext {W0 W w : World} (h : Same kd tgt W w) (k : Below W0.heap.size W0 W) (hc : ∀ c, Tag.so c ∈ kd → W0.heap.size ≤ tgt c) : Below W0.heap.size W0 w :=
  ⟨h.1.trans k.os, h.2.1.trans k.tape, h.2.2.1.trans k.output, Nat.le_trans k.size h.2.2.2.1, fun j hj => (h.2.2.2.2 j (Nat.lt_of_lt_of_le hj k.size) (fun c hc' e => by have := hc c hc'; omega)).trans (k.block j hj)⟩
end
end Go.Proofs.Ytjmigglibidbdaa
