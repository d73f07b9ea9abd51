/- Part 4 of what these claims stand on: contracts of the program's and the reference's functions, and plain facts. Conditions: each states its own. -/
import Derived.Test.YtlfmeiejocpnfaaPrF3
import Derived.Laws.Tables
import Derived.Great.BuildSlice
import Derived.Deep.RegionLaw
import Derived.Laws.EntriesVeiled
import Derived.Deep.RegionHeld3
namespace Go.Proofs.Ytlfmeiejocpnfaa
set_option linter.unusedVariables false
set_option linter.unusedSimpArgs false
section
open Go Go.RowKit
def ndB (l : List Oper) (kd : List Tg) (nd : List Nat) : Bool := (List.range l.length).all fun i => (match tgOf kd i with | .ev m => nd.getD i 0 == m | _ => true) && (nd.getD i 0 == 0 || (List.range l.length).any fun k => tgOf kd k == .ev (nd.getD i 0 - 1) && anc l l.length i k)
def Stab (nd : List Nat) (R R' : Nat → Value) : Nat → List Value → List Value → Prop
 | i, x :: xs, y :: ys => ((∀ m, m < nd.getD i 0 → R m = R' m) → x = y) ∧ Stab nd R R' (i + 1) xs ys
 | _, [], [] => True
 | _, _, _ => False
theorem Stab.get {nd : List Nat} {R R' : Nat → Value} : ∀ {xs ys : List Value} {k : Nat}, Stab nd R R' k xs ys → ∀ i, (∀ m, m < nd.getD (k + i) 0 → R m = R' m) → xs.getD i undef = ys.getD i undef
 | [], [], _, _, _, _ => rfl
 | x :: xs, y :: ys, k, h, 0, hi => by simpa using h.1 hi
 | x :: xs, y :: ys, k, h, i + 1, hi => by
   have := Stab.get h.2 i (fun m hm => hi m (by rw [show k + (i + 1) = k + 1 + i by omega]; exact hm))
   simpa using this
 | [], _ :: _, _, h, _, _ => h.elim
 | _ :: _, [], _, h, _, _ => h.elim
section
variable {l : List Oper} {kd : List Tg} {V : (Nat → Value) → List Value}
variable {T : Nat → (Nat → Value) → World → Prop} {E : Nat → Prop} {zero : Nat → Obj} {full : (Nat → Value) → Nat → Obj} {tgt : Nat → Nat} {a0 : Act} {W : World} {S : List Nat} {s : Nat} {R : Nat → Value} {G : Nat → Nat} {w : World} {nd : List Nat}
theorem anc_dep (hc : ∀ s ∈ S, ∀ o, l[s]? = some o → ∀ k, dep o k = true → k ∈ S) {i k n : Nat} {o : Oper} (ho : l[i]? = some o) (hdep : ∀ k, dep o k = true → k ∈ S) (h : anc l n i k = true) : k ∈ S := by
 cases n with
 | zero => simp [anc] at h
 | succ n =>
   unfold anc at h
   rw [ho] at h
   simp only [Bool.or_eq_true, List.any_eq_true, Bool.and_eq_true] at h
   rcases h with h | ⟨m, _, hm, h⟩
   · exact hdep k h
   · exact anc_in hc n m k (hdep m hm) h
theorem nd_le (hck : ndB l kd nd = true) (hI : EInv T E l kd zero full tgt W S s R G w) {i : Nat} {o : Oper} (ho : l[i]? = some o) (hdep : ∀ k, dep o k = true → k ∈ S) : nd.getD i 0 ≤ s := by
 unfold ndB at hck
 rw [List.all_eq_true] at hck
 have h := hck i (List.mem_range.2 (List.getElem?_eq_some_iff.1 ho).1)
 simp only [Bool.and_eq_true, Bool.or_eq_true, List.any_eq_true, beq_iff_eq] at h
 rcases h.2 with h | ⟨k, hk, ht, ha⟩
 · omega
 · have hkS := anc_dep hI.cl ho hdep ha
   have := (hI.stage k (List.mem_range.1 hk) _ ht).1 hkS
   omega
theorem nd_in (hck : ndB l kd nd = true) (hI : EInv T E l kd zero full tgt W S s R G w) {i : Nat} (hi : i ∈ S) : nd.getD i 0 ≤ s := by
 have hil := hI.inn i hi
 exact nd_le hck hI (List.getElem?_eq_getElem hil) (hI.cl i hi _ (List.getElem?_eq_getElem hil))
theorem nd_ev (hck : ndB l kd nd = true) {i m : Nat} (hi : i < l.length) (ht : tgOf kd i = .ev m) : nd.getD i 0 = m := by
 unfold ndB at hck
 rw [List.all_eq_true] at hck
 have h := hck i (List.mem_range.2 hi)
 simp only [Bool.and_eq_true] at h
 have := h.1
 rw [ht] at this
 simpa using this
variable {P : Program} {Q : Exit → Act → World → Prop}
theorem stepE (hck : chkE l kd = true) (hnd : ndB l kd nd = true) (hdst : dstB l a0.tmps.size = true) (hE : ∀ k, E k → k < W.heap.size) (hEt : ∀ c, Tg.so c ∈ kd → ¬ E (tgt c)) (htg : ∀ c, Tg.so c ∈ kd → tgt c < W.heap.size) (htd : ∀ c c', Tg.so c ∈ kd → Tg.so c' ∈ kd → tgt c = tgt c' → c = c') (hV : ∀ R R', Stab nd R R' 0 (V R) (V R')) (hFu : ∀ R R' i, (∀ m, m < nd.getD i 0 → R m = R' m) → full R i = full R' i)
   (hTB : ∀ s R w w', T s R w → Below w.heap.size w w' → T s R w')
   (hops : AllOps (RuleE P T E l kd nd V zero full tgt W (fun R => frE l (uE kd V R (fun _ => 0)) a0 (List.range l.length))) 0 l)
   (hI : EInv T E l kd zero full tgt W S s R G w) {i : Nat} {o : Oper} (ho : l[i]? = some o) (hn : i ∉ S) (hdep : ∀ k, dep o k = true → k ∈ S)
   {K : Act → World → Prop} (hK : ∀ s' R' G' w', EInv T E l kd zero full tgt W (S ++ [i]) s' R' G' w' → K (frE l (uE kd V R' G') a0 (S ++ [i])) w') :
   if Region.wanted o (yielded l.toArray (frE l (uE kd V R G) a0 S).tmps) = true then Oper.wp P o (frE l (uE kd V R G) a0 S) w K Q else K ((frE l (uE kd V R G) a0 S).put o.dst undef) w := by
 have hil := (List.getElem?_eq_some_iff.1 ho).1
 obtain ⟨hg0, hg1, hs, _, hq, hev, hst, hso⟩ := specE hck ho
 have hrule := hops.get i o ho
 rw [Nat.zero_add] at hrule
 obtain ⟨hgd, hrule⟩ := hrule
 have hd : dstOf l i = o.dst := by unfold dstOf; rw [ho]; rfl
 have hcl : ∀ o, l[i]? = some o → ∀ k, dep o k = true → k ∈ S := by
   intro o' ho' k hk
   rw [ho] at ho'
   obtain rfl : o = o' := by simpa using ho'
   exact hdep k hk
 have hns := nd_le hnd hI ho hdep
 have hev' : ∀ x, calmE l kd o x = true → (frE l (uE kd V R G) a0 S).eval x = (frE l (uE kd V R (fun _ => 0)) a0 (List.range l.length)).eval x := fun x hx => evalE hck G _ a0 hI.nd hdep hx
 have hwant : Region.wanted o (yielded l.toArray (frE l (uE kd V R G) a0 S).tmps) = (tgOf kd i != .sk) := by
   unfold Region.wanted
   cases hg : o.guard with
   | none =>
     have := hg0 hg
     simp [this]
   | some p =>
     obtain ⟨k, b⟩ := p
     obtain ⟨hdk, hkl, ⟨d, hdd⟩, hkn⟩ := hg1 k b hg
     have e := frE_some (uE kd V R G) d k hdd S a0 hI.nd (hdep k hdk) (fun j _ hj => one_writerE hck j k d hj hdd)
     rw [if_pos (dst_in hdst hdd)] at e
     have hy : yielded l.toArray (frE l (uE kd V R G) a0 S).tmps k = yB (uE kd V R G k) := by
       unfold yielded
       have : (l.toArray[k]?).bind (·.dst) = some d := by rw [List.getElem?_toArray]; exact hdd
       rw [this]
       simp only [Option.bind_some, e]
       unfold yB
       cases uE kd V R G k <;> rfl
     show (yielded l.toArray (frE l (uE kd V R G) a0 S).tmps k == some b) = _
     rw [hy, uE_known G (fun _ => 0) hkn]
     exact hgd k b hg R s w hI.holds hns
 rw [hwant]
 cases ht : tgOf kd i with
 | sk =>
   rw [if_neg (by simp)]
   have := hK s R G w (inv_grow hE hEt htg hI hil hn (by rw [ht]; rfl) hcl (Below.growE (Below.refl _ _)) (stage_snoc hI (by simp [ht])) (fun _ _ => rfl) hI.holds)
   rw [frE_snoc, hd] at this
   have hv : uE kd V R G i = undef := by unfold uE; rw [ht]; rfl
   rw [hv] at this
   exact this
 | q =>
   rw [if_pos (by simp)]
   unfold Oper.wp
   rw [ht] at hrule
   have h1 := hrule R s w hI.holds hns hI.same (fun m c hsc ha => hI.olds m (anc_lt ha) c hsc fun hs => hn (anc_in hI.cl _ m i hs ha))
   rw [← execOp_congr o hs (fun x hx => hev' x (hq (Or.inl ht) x hx))] at h1
   have hv : uE kd V R G i = (V R).getD i undef := by unfold uE; rw [ht]; rfl
   have hend : ∀ w', Below w.heap.size w w' → K ((frE l (uE kd V R G) a0 S).put o.dst ((V R).getD i undef)) w' := by
     intro w' hB
     have := hK s R G w' (inv_grow hE hEt htg hI hil hn (by rw [ht]; rfl) hcl (Below.growE hB) (stage_snoc hI (by simp [ht])) (fun _ _ => rfl) (hTB _ _ _ _ hI.holds hB))
     rw [frE_snoc, hd, hv] at this
     exact this
   generalize (execOp (frE l (uE kd V R G) a0 S).eval o).run P w = r at h1 ⊢
   cases r with
   | ok n w' =>
     cases n <;> simp only [qUpon, Oper.upon] at h1 ⊢
     · obtain ⟨rfl, rfl⟩ := h1
       exact hend _ (Below.refl _ _)
     · obtain ⟨rfl, h2⟩ := h1
       refine h2.mono ?_
       rintro e w'' ⟨rfl, hB⟩
       exact hend w'' hB
   | halt x w' => simp only [qUpon] at h1
 | ev m =>
   rw [if_pos (by simp)]
   unfold Oper.wp
   rw [ht] at hrule
   have hms : s = m := by
     have h1 := nd_ev hnd hil ht
     have h2 : ¬ m < s := fun h => hn ((hI.stage i hil m ht).2 h)
     omega
   subst hms
   have h1 := hrule R w hI.holds hI.same
   rw [← execOp_congr o hs (fun x hx => hev' x (hq (Or.inr ⟨s, ht⟩) x hx))] at h1
   have hend : ∀ (r : Value) (w'' : World), T (s + 1) (updR R s r) w'' → GrowE E w w'' → K ((frE l (uE kd V R G) a0 S).put o.dst r) w'' := by
     intro r w'' hT hB
     have hstg : ∀ j, j < l.length → ∀ m', tgOf kd j = .ev m' → (j ∈ S ++ [i] ↔ m' < s + 1) := by
       intro j hj m' hm'
       constructor
       · intro h
         rcases List.mem_append.1 h with h | h
         · have := (hI.stage j hj m' hm').1 h; omega
         · simp at h; subst h
           rw [ht] at hm'
           obtain rfl : s = m' := by simpa using hm'
           omega
       · intro h
         by_cases e : m' = s
         · have := (hev s ht j hj m' hm').1 e
           simp [this]
         · exact List.mem_append.2 (Or.inl ((hI.stage j hj m' hm').2 (by omega)))
     have := hK (s + 1) (updR R s r) G w'' (inv_grow hE hEt htg hI hil hn (by rw [ht]; rfl) hcl hB hstg (fun k hk => hFu _ _ k (fun m hm => by have := nd_in hnd hI hk; unfold updR; rw [if_neg (by omega)])) hT)
     have hc : frE l (uE kd V (updR R s r) G) a0 S = frE l (uE kd V R G) a0 S := by
       refine frE_congr _ _ S a0 (fun k hk => ?_)
       have hkl := hI.inn k hk
       have hkn := nd_in hnd hI hk
       have hR : ∀ m, m < s → updR R s r m = R m := fun m hm => by unfold updR; rw [if_neg (by omega)]
       have hs' := (hV (updR R s r) R).get k (fun m hm => hR m (by rw [Nat.zero_add] at hm; omega))
       unfold uE
       rw [hs']
       cases htk : tgOf kd k with
       | ev m' => exact hR m' ((hI.stage k hkl m' htk).1 hk)
       | _ => rfl
     have hv : uE kd V (updR R s r) G i = r := by unfold uE; rw [ht]; simp [slE, updR]
     rw [frE_snoc, hd, hv, hc] at this
     exact this
   generalize (execOp (frE l (uE kd V R G) a0 S).eval o).run P w = r at h1 ⊢
   cases r with
   | ok n w' =>
     cases n <;> simp only [eUpon, Oper.upon] at h1 ⊢
     · exact hend _ _ h1.1 h1.2
     · obtain ⟨rfl, h2⟩ := h1
       refine h2.mono ?_
       rintro e w'' ⟨r, rfl, hT, hB⟩
       exact hend r w'' hT hB
   | halt x w' => simp only [eUpon] at h1
 | al =>
   rw [if_pos (by simp)]
   unfold Oper.wp
   rw [ht] at hrule
   rw [hrule]
   simp only [Oper.upon]
   have := hK s R _ _ (inv_alE hE hTB htg hI hil hn ht hcl)
   have hc : frE l (uE kd V R (fun k => if k = i then w.heap.size else G k)) a0 S = frE l (uE kd V R G) a0 S := by
     refine frE_congr _ _ S a0 (fun k hk => ?_)
     have e : k ≠ i := (fun e => hn (by rw [← e]; exact hk))
     unfold uE
     simp only [if_neg e]
   have hv : uE kd V R (fun k => if k = i then w.heap.size else G k) i = ptrTo w.heap.size := by unfold uE; rw [ht]; simp [slE]
   rw [frE_snoc, hd, hv, hc] at this
   exact this
 | st j =>
   rw [if_pos (by simp)]
   unfold Oper.wp
   obtain ⟨T', t, x, hop, hod, hdj, hdepj, hal, hcx, huniq⟩ := hst j ht
   simp only [ht, hop] at hrule
   have hjS := hdep j hdepj
   have hp : (frE l (uE kd V R G) a0 S).eval (.tmp t) = ptrTo (G j) := by
     have e1 := frE_some (uE kd V R G) t j hdj S a0 hI.nd hjS (fun k _ hk => one_writerE hck k j t hk hdj)
     rw [if_pos (dst_in hdst hdj)] at e1
     simp only [Act.eval, Array.getD_eq_getD_getElem?]
     rw [e1]
     unfold uE; rw [hal]; rfl
   have hz := hI.zeros j hjS hal (fun s' hs' e => hn (huniq s' (hI.inn s' hs') e ▸ hs'))
   obtain ⟨⟨w1, hr, hF⟩, hT1⟩ := hrule R s (frE l (uE kd V R G) a0 S).eval w (G j) hI.holds hns hp (hev' x hcx) (hI.made j hjS hal).1 hz
   rw [hr]
   simp only [Oper.upon]
   have := hK s R G w1 (inv_stE hE htg hck hI ho hn ht hjS hcl hF (hT1 w1 hF))
   have hv : uE kd V R G i = undef := by unfold uE; rw [ht]; rfl
   rw [frE_snoc, hd, hv] at this
   exact this
 | so c =>
   rw [if_pos (by simp)]
   unfold Oper.wp
   obtain ⟨T', p, x, hop, hod, hcp, hcx, _⟩ := hso c ht
   simp only [ht, hop] at hrule
   obtain ⟨⟨w1, hr, hF⟩, hT1⟩ := hrule R s (frE l (uE kd V R G) a0 S).eval w hI.holds hns (hev' p hcp) (hev' x hcx) (hI.olds i hil c ht hn)
   rw [hr]
   simp only [Oper.upon]
   have := hK s R G w1 (inv_soE htg htd hck hI ho hn ht hcl hF (hT1 w1 hF))
   have hv : uE kd V R G i = undef := by unfold uE; rw [ht]; rfl
   rw [frE_snoc, hd, hv] at this
   exact this
theorem inv_all (hI : EInv T E l kd zero full tgt W S s R G w) (hall : ∀ m, m < l.length → m ∈ S) : S.Perm (List.range l.length) ∧ EInv T E l kd zero full tgt W (List.range l.length) s R G w := by
 have hperm : S.Perm (List.range l.length) := (List.perm_ext_iff_of_nodup hI.nd List.nodup_range).2 (fun k => ⟨fun h => List.mem_range.2 (hI.inn k h), fun h => hall k (List.mem_range.1 h)⟩)
 refine ⟨hperm, List.nodup_range, fun i hi => List.mem_range.1 hi, hI.same, fun i hi => hI.made i (hperm.mem_iff.2 hi), fun i hi j hj => hI.apart i (hperm.mem_iff.2 hi) j (hperm.mem_iff.2 hj), fun i hi ht hs => hI.zeros i (hperm.mem_iff.2 hi) ht (fun s hs' => hs s (hperm.mem_iff.1 hs')), fun s hs i hi => ?_, fun s hs c hc hn => hI.olds s hs c hc (fun h => hn (hperm.mem_iff.1 h)), fun s hs => hI.olds' s (hperm.mem_iff.2 hs), fun s hs o ho k hk => hperm.mem_iff.1 (hI.cl s (hperm.mem_iff.2 hs) o ho k hk), fun i hi m hm => by rw [← hI.stage i hi m hm]; exact hperm.mem_iff.symm, hI.holds⟩
 obtain ⟨a, b, c⟩ := hI.fulls s (hperm.mem_iff.2 hs) i hi
 exact ⟨hperm.mem_iff.1 a, b, c⟩
theorem any_of_E (hck : chkE l kd = true) (hnd : ndB l kd nd = true) (hdst : dstB l a0.tmps.size = true) (hE : ∀ k, E k → k < W.heap.size) (hEt : ∀ c, Tg.so c ∈ kd → ¬ E (tgt c)) (htg : ∀ c, Tg.so c ∈ kd → tgt c < W.heap.size) (htd : ∀ c c', Tg.so c ∈ kd → Tg.so c' ∈ kd → tgt c = tgt c' → c = c') (hV : ∀ R R', Stab nd R R' 0 (V R) (V R')) (hFu : ∀ R R' i, (∀ m, m < nd.getD i 0 → R m = R' m) → full R i = full R' i)
   (hTB : ∀ s R w w', T s R w → Below w.heap.size w w' → T s R w')
   (hops : AllOps (RuleE P T E l kd nd V zero full tgt W (fun R => frE l (uE kd V R (fun _ => 0)) a0 (List.range l.length))) 0 l)
   (hend : ∀ s R G w, EInv T E l kd zero full tgt W (List.range l.length) s R G w → Q .normal (frE l (uE kd V R G) a0 (List.range l.length)) w) :
   ∀ (fuel : Nat) (S : List Nat) (s : Nat) (R : Nat → Value) (G : Nat → Nat) (w : World) (listed : Array Bool), listed.size = l.length → (∀ j, j < l.length → (listed.getD j true = decide (j ∈ S)) ∧ listed.getD j false = decide (j ∈ S)) → EInv T E l kd zero full tgt W S s R G w → S.length + fuel = l.length → wpAny P .any l.toArray Q fuel listed (frE l (uE kd V R G) a0 S) w := by
 have h1 := one_writerE hck
 intro fuel
 induction fuel with
 | zero =>
   intro S s R G w listed hsz hL hI hlen
   have hall : ∀ m, m < l.length → m ∈ S := by
     intro m hm
     refine Classical.byContradiction fun hn => ?_
     have h2 := nodup_sub (m :: S) (List.range l.length) (List.nodup_cons.2 ⟨hn, hI.nd⟩) (fun k hk => by
       rcases List.mem_cons.1 hk with h | h
       · subst h; exact List.mem_range.2 hm
       · exact List.mem_range.2 (hI.inn k h))
     simp at h2
     omega
   obtain ⟨hperm, hI'⟩ := inv_all hI hall
   refine ⟨?_, ?_⟩
   · cases hr : Region.ready .any l.toArray listed with
     | nil => rfl
     | cons i r =>
       obtain ⟨o, ho, hli, _⟩ := ready_spec (show i ∈ Region.ready .any l.toArray listed by rw [hr]; simp)
       have hi := (List.getElem?_eq_some_iff.1 ho).1
       rw [(hL i hi).1] at hli
       simp [hall i hi] at hli
   · rw [frE_perm _ a0 hperm h1]
     exact hend s R G w hI'
 | succ fuel ih =>
   intro S s R G w listed hsz hL hI hlen
   refine ⟨?_, ?_⟩
   · intro hr
     have : ∃ m, m < l.length ∧ m ∉ S := by
       apply Classical.byContradiction
       intro hno
       have := nodup_sub (List.range l.length) S List.nodup_range (fun m hm => Classical.byContradiction fun hn => hno ⟨m, List.mem_range.1 hm, hn⟩)
       simp at this
       omega
     obtain ⟨m, hm, hmS⟩ := this
     exact absurd hr (readyE_some hck hL hm hmS)
   · intro i hi
     obtain ⟨o, ho, hli, hdep⟩ := ready_spec hi
     have hil := (List.getElem?_eq_some_iff.1 ho).1
     have hn : i ∉ S := by
       intro h
       rw [(hL i hil).1] at hli
       simp [h] at hli
     have hdep' : ∀ k, dep o k = true → k ∈ S := by
       intro k hk
       have h2 := hdep k hk
       by_cases hkl : k < l.length
       · rw [(hL k hkl).2] at h2
         simpa using h2
       · rw [Array.getD_eq_getD_getElem?, Array.getElem?_eq_none (by omega)] at h2
         simp at h2
     have hstep := stepE (Q := Q) hck hnd hdst hE hEt htg htd hV hFu hTB hops hI ho hn hdep' (K := wpAny P .any l.toArray Q fuel (listed.setIfInBounds i true)) (by
       intro s' R' G' w' hI'
       refine ih (S ++ [i]) s' R' G' w' _ (by simpa using hsz) ?_ hI' (by simp; omega)
       intro j hj
       have hjs : j < listed.size := by omega
       by_cases e : j = i
       · subst e
         simp [Array.getD_eq_getD_getElem?, hjs]
       · have e' : i ≠ j := fun h => e h.symm
         have := hL j hj
         simp only [Array.getD_eq_getD_getElem?] at this ⊢
         rw [Array.getElem?_setIfInBounds_ne e']
         simpa [e] using this)
     show wpOp P l.toArray Q i _ _ _
     unfold wpOp
     rw [List.getElem?_toArray, ho]
     simp only
     by_cases hw : Region.wanted o (yielded l.toArray (frE l (uE kd V R G) a0 S).tmps) = true
     · rw [if_pos hw] at hstep
       rw [if_pos hw]
       exact Or.inl hstep
     · rw [if_neg hw] at hstep
       rw [if_neg hw]
       exact hstep
theorem list_of_E (hck : chkE l kd = true) (hnd : ndB l kd nd = true) (hdst : dstB l a0.tmps.size = true) (hE : ∀ k, E k → k < W.heap.size) (hEt : ∀ c, Tg.so c ∈ kd → ¬ E (tgt c)) (htg : ∀ c, Tg.so c ∈ kd → tgt c < W.heap.size) (htd : ∀ c c', Tg.so c ∈ kd → Tg.so c' ∈ kd → tgt c = tgt c' → c = c') (hV : ∀ R R', Stab nd R R' 0 (V R) (V R')) (hFu : ∀ R R' i, (∀ m, m < nd.getD i 0 → R m = R' m) → full R i = full R' i)
   (hTB : ∀ s R w w', T s R w → Below w.heap.size w w' → T s R w')
   (hops : AllOps (RuleE P T E l kd nd V zero full tgt W (fun R => frE l (uE kd V R (fun _ => 0)) a0 (List.range l.length))) 0 l)
   (hend : ∀ s R G w, EInv T E l kd zero full tgt W (List.range l.length) s R G w → Q .normal (frE l (uE kd V R G) a0 (List.range l.length)) w) :
   ∀ (l' : List Oper) (k : Nat) (s : Nat) (R : Nat → Value) (G : Nat → Nat) (w : World), k + l'.length = l.length → (∀ i, l'[i]? = l[k + i]?) → EInv T E l kd zero full tgt W (List.range k) s R G w → wpList P l.toArray Q l' (frE l (uE kd V R G) a0 (List.range k)) w
 | [], k, s, R, G, w, hk, _, hI => by
   simp at hk
   subst hk
   exact hend s R G w hI
 | o :: l', k, s, R, G, w, hk, hl, hI => by
   have ho : l[k]? = some o := by have := hl 0; simpa using this.symm
   have hkl := (List.getElem?_eq_some_iff.1 ho).1
   refine wpList_step fun K hK => ?_
   refine stepE (Q := Q) hck hnd hdst hE hEt htg htd hV hFu hTB hops hI ho (by simp) (fun m hm => ?_) (fun s' R' G' w' hI' => ?_)
   · unfold dep at hm
     rw [Array.any_eq_true'] at hm
     obtain ⟨e, he, hb⟩ := hm
     simp only [Bool.and_eq_true, beq_iff_eq] at hb
     have := (specE hck ho).2.2.2.1 e he hb.1
     rw [hb.2] at this
     exact List.mem_range.2 this
   · refine hK _ _ ?_
     rw [← List.range_succ] at hI' ⊢
     exact list_of_E hck hnd hdst hE hEt htg htd hV hFu hTB hops hend l' (k + 1) s' R' G' w' (by simp at hk; omega) (fun i => by have := hl (i + 1); simpa [Nat.add_assoc, Nat.add_comm 1 i] using this) hI'
theorem inv_start {R : Nat → Value} (hT : T 0 R w) (hw : w.os = W.os ∧ w.tape = W.tape ∧ w.output = W.output ∧ w.heap = W.heap) : EInv T E l kd zero full tgt W [] 0 R (fun _ => 0) w := by
 obtain ⟨h1, h2, h3, h4⟩ := hw
 exact ⟨List.nodup_nil, by simp, ⟨h1, h2, h3, by rw [h4]; exact Nat.le_refl _, fun _ _ _ _ => by rw [h4]⟩, by simp, by simp, by simp, by simp, fun s hs c hc _ => by rw [h4], by simp, by simp, fun i _ m _ => by simp, hT⟩
def putE : List Oper → List Tg → List Value → (Nat → Value) → (Nat → Nat) → Nat → Act → Act
 | o :: l, t :: kd, v :: V, R, G, i, a => putE l kd V R G (i + 1) (a.put o.dst (slE t v (G i) R))
 | _, _, _, _, _, _, a => a
theorem putE_eq (l : List Oper) (kd : List Tg) (V : (Nat → Value) → List Value) (R : Nat → Value) (G : Nat → Nat) : ∀ (l' : List Oper) (kd' : List Tg) (V' : List Value) (k : Nat) (a : Act), (∀ i, l'[i]? = l[k + i]?) → (∀ i, kd'[i]? = kd[k + i]?) → (∀ i, V'[i]? = (V R)[k + i]?) → kd'.length = l'.length → V'.length = l'.length → putE l' kd' V' R G k a = (List.range' k l'.length).foldl (fun a i => a.put (dstOf l i) (uE kd V R G i)) a
 | [], [], [], k, a, _, _, _, _, _ => rfl
 | o :: l', t :: kd', v :: V', k, a, h1, h2, h3, h4, h5 => by
   have e1 : l[k]? = some o := by have := h1 0; simpa using this.symm
   have e2 : kd[k]? = some t := by have := h2 0; simpa using this.symm
   have e3 : (V R)[k]? = some v := by have := h3 0; simpa using this.symm
   have ed : dstOf l k = o.dst := by unfold dstOf; rw [e1]; rfl
   have et : tgOf kd k = t := by unfold tgOf; rw [List.getD_eq_getElem?_getD, e2]; rfl
   have eV : (V R).getD k undef = v := by rw [List.getD_eq_getElem?_getD, e3]; rfl
   have ev : uE kd V R G k = slE t v (G k) R := by
     unfold uE; rw [et, eV]
   rw [putE, List.length_cons, List.range'_succ, List.foldl_cons, ed, ev]
   exact putE_eq l kd V R G l' kd' V' (k + 1) _ (fun i => by have := h1 (i + 1); simpa [Nat.add_assoc, Nat.add_comm 1 i] using this) (fun i => by have := h2 (i + 1); simpa [Nat.add_assoc, Nat.add_comm 1 i] using this) (fun i => by have := h3 (i + 1); simpa [Nat.add_assoc, Nat.add_comm 1 i] using this) (by simpa using h4) (by simpa using h5)
 | [], _ :: _, _, _, _, _, _, _, h, _ => by simp at h
 | [], [], _ :: _, _, _, _, _, _, _, h => by simp at h
 | _ :: _, [], _, _, _, _, _, _, h, _ => by simp at h
 | _ :: _, _ :: _, [], _, _, _, _, _, _, h => by simp at h
theorem frE_putE (a0 : Act) (h4 : kd.length = l.length) (R : Nat → Value) (h5 : (V R).length = l.length) : frE l (uE kd V R G) a0 (List.range l.length) = putE l kd (V R) R G 0 a0 := by
 rw [putE_eq l kd V R G l kd (V R) 0 a0 (by simp) (by simp) (by simp) h4 h5]
 unfold frE
 rw [List.range_eq_range']
theorem wp_ev {id : Nat} (kd : List Tg) (nd : List Nat) (V : (Nat → Value) → List Value) (zero : Nat → Obj) (full : (Nat → Value) → Nat → Obj) (tgt : Nat → Nat) (T : Nat → (Nat → Value) → World → Prop) (E : Nat → Prop) (hm : P.follows .mixedOrders = true) (hck : chkE l kd = true) (hnd : ndB l kd nd = true) (hdst : dstB l a0.tmps.size = true) (h4 : kd.length = l.length) (h5 : ∀ R, (V R).length = l.length)
   (hE : ∀ k, E k → k < W.heap.size) (hEt : ∀ c, Tg.so c ∈ kd → ¬ E (tgt c)) (htg : ∀ c, Tg.so c ∈ kd → tgt c < W.heap.size) (htd : ∀ c c', Tg.so c ∈ kd → Tg.so c' ∈ kd → tgt c = tgt c' → c = c') (hV : ∀ R R', Stab nd R R' 0 (V R) (V R')) (hFu : ∀ R R' i, (∀ m, m < nd.getD i 0 → R m = R' m) → full R i = full R' i)
   (hTB : ∀ s R w w', T s R w → Below w.heap.size w w' → T s R w') (hT0 : T 0 (fun _ => undef) W.drew)
   (hops : AllOps (RuleE P T E l kd nd V zero full tgt W (fun R => putE l kd (V R) R (fun _ => 0) 0 a0)) 0 l)
   (hend : ∀ s R G w, EInv T E l kd zero full tgt W (List.range l.length) s R G w → Q .normal (putE l kd (V R) R G 0 a0) w) :
   (Code.region id l.toArray true).wp P Q a0 W := by
 refine wp_region_any hm ?_
 have e : (fun R => frE l (uE kd V R (fun _ => 0)) a0 (List.range l.length)) = (fun R => putE l kd (V R) R (fun _ => 0) 0 a0) := funext fun R => frE_putE a0 h4 R (h5 R)
 rw [← e] at hops
 have h := any_of_E (Q := Q) hck hnd hdst hE hEt htg htd hV hFu hTB hops (fun s R G w hI => by rw [frE_putE a0 h4 R (h5 R)]; exact hend s R G w hI) l.length [] 0 (fun _ => undef) (fun _ => 0) { W with drawn := W.drawn + 1 } (Array.replicate l.length false) (by simp) (fun j hj => by simp [Array.getD_eq_getD_getElem?, hj]) (inv_start hT0 ⟨rfl, rfl, rfl, rfl⟩) (by simp)
 simpa [frE] using h
theorem wp_evs {id : Nat} (kd : List Tg) (nd : List Nat) (V : (Nat → Value) → List Value) (zero : Nat → Obj) (full : (Nat → Value) → Nat → Obj) (tgt : Nat → Nat) (T : Nat → (Nat → Value) → World → Prop) (E : Nat → Prop) (hck : chkE l kd = true) (hnd : ndB l kd nd = true) (hdst : dstB l a0.tmps.size = true) (h4 : kd.length = l.length) (h5 : ∀ R, (V R).length = l.length)
   (hE : ∀ k, E k → k < W.heap.size) (hEt : ∀ c, Tg.so c ∈ kd → ¬ E (tgt c)) (htg : ∀ c, Tg.so c ∈ kd → tgt c < W.heap.size) (htd : ∀ c c', Tg.so c ∈ kd → Tg.so c' ∈ kd → tgt c = tgt c' → c = c') (hV : ∀ R R', Stab nd R R' 0 (V R) (V R')) (hFu : ∀ R R' i, (∀ m, m < nd.getD i 0 → R m = R' m) → full R i = full R' i)
   (hTB : ∀ s R w w', T s R w → Below w.heap.size w w' → T s R w') (hT0 : T 0 (fun _ => undef) W)
   (hops : AllOps (RuleE P T E l kd nd V zero full tgt W (fun R => putE l kd (V R) R (fun _ => 0) 0 a0)) 0 l)
   (hend : ∀ s R G w, EInv T E l kd zero full tgt W (List.range l.length) s R G w → Q .normal (putE l kd (V R) R G 0 a0) w) :
   (Code.region id l.toArray false).wp P Q a0 W := by
 have e : (fun R => frE l (uE kd V R (fun _ => 0)) a0 (List.range l.length)) = (fun R => putE l kd (V R) R (fun _ => 0) 0 a0) := funext fun R => frE_putE a0 h4 R (h5 R)
 rw [← e] at hops
 refine wp_region_lit ?_
 have h := list_of_E (Q := Q) hck hnd hdst hE hEt htg htd hV hFu hTB hops (fun s R G w hI => by rw [frE_putE a0 h4 R (h5 R)]; exact hend s R G w hI) l 0 0 (fun _ => undef) (fun _ => 0) W (by simp) (by simp) (inv_start hT0 ⟨rfl, rfl, rfl, rfl⟩)
 simpa [frE] using h
end
end
section
open Go Go.RowKit
section
variable {P : Program} {l : List Oper} {kd : List Tg} {V : (Nat → Value) → List Value} {T : Nat → (Nat → Value) → World → Prop} {E : Nat → Prop} {zero : Nat → Obj} {full : (Nat → Value) → Nat → Obj} {tgt : Nat → Nat} {W : World} {A : (Nat → Value) → Act} {nd : List Nat} {i : Nat} {o : Oper}
abbrev GdE (T : Nat → (Nat → Value) → World → Prop) (kd : List Tg) (nd : List Nat) (V : (Nat → Value) → List Value) (i : Nat) (o : Oper) : Prop := ∀ k b, o.guard = some (k, b) → ∀ R s w, T s R w → nd.getD i 0 ≤ s → (yB (uE kd V R (fun _ => 0) k) == some b) = (tgOf kd i != .sk)
theorem gd_none (h : o.guard = none) : GdE T kd nd V i o := fun k b e => by rw [h] at e; cases e
theorem er_q (v : (Nat → Value) → Value) (h : tgOf kd i = .q) (hv : ∀ R, (V R).getD i undef = v R) (hg : GdE T kd nd V i o) (hq : ∀ R s w, T s R w → nd.getD i 0 ≤ s → SameE kd tgt E W w → (∀ m c, tgOf kd m = .so c → anc l l.length m i = true → w.heap[tgt c]? = W.heap[tgt c]?) → qUpon P w (v R) ((execOp (A R).eval o).run P w)) : RuleE P T E l kd nd V zero full tgt W A i o := by
 refine ⟨hg, ?_⟩
 rw [h]
 intro R s w a b c d
 rw [hv]
 exact hq R s w a b c d
theorem er_al (z : Obj) (h : tgOf kd i = .al) (hz : zero i = z) (hg : GdE T kd nd V i o) (hr : ∀ (ρ : Operand → Value) (w : World), (execOp ρ o).run P w = .ok (.value (ptrTo w.heap.size)) (w.alloc z)) : RuleE P T E l kd nd V zero full tgt W A i o := by
 refine ⟨hg, ?_⟩
 rw [h]
 intro ρ w
 rw [hz]
 exact hr ρ w
theorem er_st {j : Nat} {Ty : TypeId} {p x : Operand} (f : (Nat → Value) → Obj) (z : Obj) (v : (Nat → Value) → Value) (h : tgOf kd i = .st j) (hop : o.op = .store Ty p x) (hf : ∀ R, full R i = f R) (hz : zero j = z) (hg : GdE T kd nd V i o) (hv : ∀ R, (A R).eval x = v R)
   (hs : ∀ R s (ρ : Operand → Value) (w : World) (g : Nat), T s R w → nd.getD i 0 ≤ s → ρ p = ptrTo g → ρ x = v R → W.heap.size ≤ g → w.heap[g]? = some z → Stores P ρ o w g (f R) ∧ ∀ w1, Filled w w1 g (f R) → T s R w1) : RuleE P T E l kd nd V zero full tgt W A i o := by
 refine ⟨hg, ?_⟩
 rw [h]
 simp only [hop, hf, hz]
 intro R s ρ w g a b c d
 rw [hv] at d
 exact hs R s ρ w g a b c d
theorem er_so {c : Nat} {Ty : TypeId} {p x : Operand} (g : Nat) (f : (Nat → Value) → Obj) (u v : (Nat → Value) → Value) (h : tgOf kd i = .so c) (hop : o.op = .store Ty p x) (hf : ∀ R, full R i = f R) (htg : tgt c = g) (hg : GdE T kd nd V i o) (hp : ∀ R, (A R).eval p = u R) (hv : ∀ R, (A R).eval x = v R)
   (hs : ∀ R s (ρ : Operand → Value) (w : World), T s R w → nd.getD i 0 ≤ s → ρ p = u R → ρ x = v R → w.heap[g]? = W.heap[g]? → Stores P ρ o w g (f R) ∧ ∀ w1, Filled w w1 g (f R) → T s R w1) : RuleE P T E l kd nd V zero full tgt W A i o := by
 refine ⟨hg, ?_⟩
 rw [h]
 simp only [hop, hf, htg]
 intro R s ρ w a b d e
 rw [hv] at e
 rw [hp] at d
 exact hs R s ρ w a b d e
theorem er_ev {m : Nat} (h : tgOf kd i = .ev m) (hg : GdE T kd nd V i o) (hq : ∀ R w, T m R w → SameE kd tgt E W w → eUpon P T E m R w ((execOp (A R).eval o).run P w)) : RuleE P T E l kd nd V zero full tgt W A i o := by
 refine ⟨hg, ?_⟩
 rw [h]
 exact hq
theorem q_load {a : Act} {w : World} {ty : TypeId} {x : Operand} {u v : Value} (ho : o.op = .load ty x) (hx : a.eval x = u) (hr : (Instr.loadAt ty u).run P w = .ok v w) : qUpon P w v ((execOp a.eval o).run P w) := by
 unfold execOp
 simp only [ho, hx, Sem.run_bind, hr, Result.andThen_ok, Sem.run_pure]
 exact ⟨rfl, rfl⟩
theorem q_bin {a : Act} {w : World} {b : BinOp} {ty ty' : TypeId} {x y : Operand} {u v r : Value} (ho : o.op = .binOp b ty x y ty') (hx : a.eval x = u) (hy : a.eval y = v) (hge : (eqGuard b ty x y u v).run P w = .ok () w) (hr : (binOp b ty u v).run P w = .ok r w) : qUpon P w r ((execOp a.eval o).run P w) := by
 unfold execOp
 simp only [ho, hx, hy, Sem.run_bind, hge, hr, Result.andThen_ok, Sem.run_pure]
 exact ⟨rfl, rfl⟩
theorem Blk.sameE {w : World} {g : Nat} {t : TypeId} {X : Array Value} (h : Blk W g t X) (k : SameE kd tgt E W w) (he : ¬ E g) (hc : ∀ c, Tg.so c ∈ kd → tgt c ≠ g) : Blk w g t X :=
 (k.2.2.2.2 g h.lt he hc).trans h
end
theorem TapeOk.keep {B b : Nat} {w w' : World} (h : TapeOk B w b) (hs : w.heap.size ≤ w'.heap.size) (hk : ∀ k, k = b ∨ k < B → k < w.heap.size → w'.heap[k]? = w.heap[k]?) : TapeOk B w' b := by
 obtain ⟨h1, h2, a, len, cap, at_, c0, c1, f1, h3, h4, hx⟩ := h
 have hc : ∀ k, k = b ∨ k < B → k < w.heap.size → ∀ o, w'.cell? ⟨k, o, none⟩ = w.cell? ⟨k, o, none⟩ := fun k h1 h2 o => by unfold World.cell?; rw [hk k h1 h2]
 have hf : w'.frozen? ⟨b, 1, none⟩ = w.frozen? ⟨b, 1, none⟩ := by unfold World.frozen?; rw [hk b (Or.inl rfl) h2]
 refine ⟨h1, by omega, a, len, cap, at_, (hc b (Or.inl rfl) h2 0).trans c0, (hc b (Or.inl rfl) h2 1).trans c1, hf.trans f1, h3, h4, ?_⟩
 rcases hx with hx | ⟨xb, xo, e, hb, hl, hcc⟩
 · exact Or.inl hx
 · refine Or.inr ⟨xb, xo, e, hb, hl, fun i hi => ?_⟩
   obtain ⟨v, h5, h6⟩ := hcc i hi
   exact ⟨v, h5, (hc xb (Or.inr hb) (by omega) _).trans h6⟩
def TE (B b : Nat) (W0 : World) (X : Nat → (Nat → Value) → Prop) (s : Nat) (R : Nat → Value) (w : World) : Prop := TapeOk B w b ∧ Upd b W0 w ∧ X s R
def XE (W0 : World) (_ : Nat) (_ : Nat → Value) (w : World) : Prop := Ext W0 w
theorem ext_filled {W0 w w1 : World} {g : Nat} {f : Obj} (h : Ext W0 w) (hF : Filled w w1 g f) (hg : W0.heap.size ≤ g) : Ext W0 w1 :=
 ⟨hF.2.2.2.1.trans h.os, hF.2.2.2.2.1.trans h.tape, hF.2.2.2.2.2.trans h.output, by rw [hF.2.2.1]; exact h.size, fun k hk => (hF.2.1 k (by omega)).trans (h.block k hk)⟩
theorem xe_below {W0 : World} : ∀ s R w w', XE W0 s R w → Below w.heap.size w w' → XE W0 s R w' := fun _ _ _ _ h k => Ext.trans h k
theorem store_known {ρ : Operand → Value} {o : Oper} {Ty T0 : TypeId} {p x : Operand} {w : World} {g : Nat} {cs ds : Array Value} {u v : Value} (hop : o.op = .store Ty p x) (hp : ρ p = u) (hx : ρ x = v) (hz : w.heap[g]? = some (.cells cs T0 (0, 0))) (hr : (Instr.storeAt Ty u v).run Try.prog w = .ok () (w.setRow g ds)) :
   Stores Try.prog ρ o w g (.cells ds T0 (0, 0)) :=
 ⟨w.setRow g ds, run_storeOp hop (by rw [hp, hx]; exact hr), Blk.setRow (show Blk w g T0 cs from hz) ds, fun k hk => setRow_other w g k ds (by omega), by simp [World.setRow], rfl, rfl, rfl⟩
theorem store_rowN {ρ : Operand → Value} {o : Oper} {T : TypeId} {p x : Operand} {w : World} {g n : Nat} {cs ds : Array Value} (hop : o.op = .store T p x) (hp : ρ p = ptrTo g) (hx : ρ x = .agg ds) (hz : w.heap[g]? = some (.cells cs T (0, 0))) (hi : (Try.prog.info? T).map (·.size) = some n) (hc : cs.size = n) (hs : ds.size = n) (h1 : ds.all (·.oneCell') = true) :
   Stores Try.prog ρ o w g (.cells ds T (0, 0)) := store_row hop hp hx hz (by rw [hc]; exact hi) (by rw [hs, hc]) h1
def XA (l : List (Value → Prop)) (s : Nat) (R : Nat → Value) : Prop := ∀ m p, l[m]? = some p → m < s → p (R m)
theorem XA.zero {l : List (Value → Prop)} {R : Nat → Value} : XA l 0 R := fun _ _ _ h => absurd h (by omega)
theorem XA.step {l : List (Value → Prop)} {m : Nat} {R : Nat → Value} {p : Value → Prop} {r : Value} (h : XA l m R) (hp : l[m]? = some p) (hr : p r) : XA l (m + 1) (updR R m r) := fun k q hq hk => by
 unfold updR
 by_cases e : k = m
 · subst e
   rw [hp] at hq
   cases hq
   rw [if_pos rfl]; exact hr
 · rw [if_neg e]; exact h k q hq (by omega)
theorem XA.get {l : List (Value → Prop)} {s : Nat} {R : Nat → Value} {p : Value → Prop} (h : XA l s R) (m : Nat) (hp : l[m]? = some p) (hs : m < s) : p (R m) := h m p hp hs
end
section
open Go Go.RowKit Go.Sort
def UE (g : Nat) (W0 : World) (_ : Nat) (_ : Nat → Value) (w : World) : Prop := Upd g W0 w
theorem ue_below {g : Nat} {W0 : World} : ∀ s R w w', UE g W0 s R w → Below w.heap.size w w' → UE g W0 s R w' := fun _ _ _ _ h k => Upd.more h k
theorem ue_self {b : Nat} {W0 w w1 : World} {f : Obj} (h : Upd b W0 w) (hF : Filled w w1 b f) : Upd b W0 w1 :=
 ⟨hF.2.2.2.1.trans h.1, hF.2.2.2.2.1.trans h.2.1, hF.2.2.2.2.2.trans h.2.2.1, by rw [hF.2.2.1]; exact h.2.2.2.1, fun k hk hb => (hF.2.1 k hb).trans (h.2.2.2.2 k hk hb)⟩
end
section
open Go Go.RowKit
theorem t_boolN (B b : Nat) (n : Int) (W w : World) (h1 : 2 ≤ n) (h2 : n ≤ 1000) (hT : TapeOk B w b) (hW : Upd b W w) :
   Calls Try.prog 61 #[.pointer (some ⟨b, 0, none⟩), .int .i64 n] w (BoolPost B b W) := by
 have hn0 : ¬ (n = 0) := by omega
 have hm : (1 : Int).tmod n = 1 := by
   rw [Int.tmod_eq_emod_of_nonneg (by omega)]; exact Int.emod_eq_of_lt (by omega) (by omega)
 have hm2 : (1 : Int) % n = 1 := Int.emod_eq_of_lt (by omega) (by omega)
 have hT' := hT.below (below_drewN' (b + 1) w 1)
 go_enter Try.func61, Try.ntmps61
 go_wp2_with fail
 go_region_with (go_at_call 11; refine (t_next' B b n W _ ⟨by omega, by omega⟩ (by first | exact hT | exact (hT.below (below_drewN' (b + 1) w 1))) (by first | exact hW | exact hW.drew)).mono ?_; rintro e w' ⟨u, rfl, hu, hT2, hB2⟩)
 all_goals go_wp2_with fail
 all_goals go_ret
 all_goals exact ⟨_, rfl, hT2, hB2⟩
def IsS (l : List (Int × Int)) : Prop := ∀ p ∈ l, I64 p.1 ∧ I64 p.2
theorem IsS.nil : IsS [] := by intro x hx; simp at hx
theorem IsS.app {l m : List (Int × Int)} (h : IsS l) (k : IsS m) : IsS (l ++ m) := by
 intro x hx; rcases List.mem_append.1 hx with a | a
 · exact h x a
 · exact k x a
theorem IsS.one {x y : Int} (h : I64 x) (k : I64 y) : IsS [(x, y)] := by intro p hp; simp at hp; subst hp; exact ⟨h, k⟩
theorem IsS.take {l : List (Int × Int)} (h : IsS l) (k : Nat) : IsS (l.take k) := fun x hx => h x (List.mem_of_mem_take hx)
theorem IsS.drop {l : List (Int × Int)} (h : IsS l) (k : Nat) : IsS (l.drop k) := fun x hx => h x (List.mem_of_mem_drop hx)
theorem IsS.get {l : List (Int × Int)} (h : IsS l) (k : Nat) : I64 (l.getD k (0, 0)).1 ∧ I64 (l.getD k (0, 0)).2 := by
 rw [List.getD_eq_getElem?_getD]
 cases hk : l[k]? with
 | none => exact ⟨⟨by simp, by simp⟩, ⟨by simp, by simp⟩⟩
 | some x => exact h x (List.mem_of_getElem? hk)
def s8s : List (Int × Int) → List Value
 | [] => []
 | p :: l => .int .i64 p.1 :: .int .i64 p.2 :: s8s l
theorem s8s_len : ∀ l : List (Int × Int), (s8s l).length = l.length * 2
 | [] => rfl
 | _ :: l => by simp only [s8s, List.length_cons, s8s_len l]; omega
theorem s8s_one : ∀ l : List (Int × Int), ∀ u ∈ s8s l, u.oneCell' = true
 | [], u, h => by simp [s8s] at h
 | p :: l, u, h => by
   simp only [s8s, List.mem_cons] at h
   rcases h with rfl | rfl | h
   · rfl
   · rfl
   · exact s8s_one l u h
theorem s8s_app : ∀ l m : List (Int × Int), s8s (l ++ m) = s8s l ++ s8s m
 | [], _ => rfl
 | p :: l, m => by simp only [List.cons_append, s8s, s8s_app l m]
theorem s8s_get : ∀ (l : List (Int × Int)) (j : Nat), j < l.length → (s8s l)[2 * j]? = some (.int .i64 (l.getD j (0, 0)).1) ∧ (s8s l)[2 * j + 1]? = some (.int .i64 (l.getD j (0, 0)).2)
 | [], j, h => by simp at h
 | p :: l, 0, _ => by simp [s8s]
 | p :: l, j + 1, h => by
   have := s8s_get l j (by simpa using h)
   rw [show 2 * (j + 1) = 2 * j + 1 + 1 by omega]
   simpa [s8s] using this
def SampsAt (w : World) (A : Option Addr) (l : List (Int × Int)) : Prop :=
 IsS l ∧ l.length ≤ 9223372036854775807 ∧ (0 < l.length → ∃ b off, A = some ⟨b, off, none⟩ ∧ b < w.heap.size ∧ ∀ j, j < l.length → w.cell? ⟨b, off + 2 * j, none⟩ = some (.int .i64 (l.getD j (0, 0)).1) ∧ w.cell? ⟨b, off + (2 * j + 1), none⟩ = some (.int .i64 (l.getD j (0, 0)).2))
theorem SampsAt.nil (w : World) (A : Option Addr) : SampsAt w A [] := ⟨IsS.nil, by simp, fun h => absurd h (by simp)⟩
theorem SampsAt.ext {w w' : World} {A : Option Addr} {l : List (Int × Int)} (h : SampsAt w A l) (e : Ext w w') : SampsAt w' A l :=
 ⟨h.1, h.2.1, fun hp => by
   obtain ⟨b, off, hA, hb, hc⟩ := h.2.2 hp
   exact ⟨b, off, hA, Nat.lt_of_lt_of_le hb e.size, fun j hj => ⟨(e.cell (p := ⟨b, off + 2 * j, none⟩) hb).trans (hc j hj).1, (e.cell (p := ⟨b, off + (2 * j + 1), none⟩) hb).trans (hc j hj).2⟩⟩⟩
theorem SampsAt.keep {w w' : World} {A : Option Addr} {l : List (Int × Int)} (h : SampsAt w A l) (hs : w.heap.size ≤ w'.heap.size) (e : ∀ b off, A = some ⟨b, off, none⟩ → b < w.heap.size → w'.heap[b]? = w.heap[b]?) : SampsAt w' A l :=
 ⟨h.1, h.2.1, fun hp => by
   obtain ⟨b, off, hA, hb, hc⟩ := h.2.2 hp
   exact ⟨b, off, hA, Nat.lt_of_lt_of_le hb hs, fun j hj => ⟨(World.cell?_of_block (a := ⟨b, off + 2 * j, none⟩) (e b off hA hb)).trans (hc j hj).1, (World.cell?_of_block (a := ⟨b, off + (2 * j + 1), none⟩) (e b off hA hb)).trans (hc j hj).2⟩⟩⟩
theorem info_sm : (Try.prog.info? 79).map (fun i => (i.zero, i.size, i.bytes)) = some (some (.agg #[.int .i64 0, .int .i64 0]), 2, 16) := by kernel_rfl
def OwnS (B : Nat) (w : World) (v : Value) (l : List (Int × Int)) : Prop := w.ownsRow B 79 2 v l.length (s8s l) ∧ IsS l
theorem OwnS.at_ {B : Nat} {w : World} {v : Value} {l : List (Int × Int)} (h : OwnS B w v l) : ∃ A cap, v = .slice A l.length cap ∧ l.length ≤ cap ∧ cap ≤ 9223372036854775807 ∧ SampsAt w A l := by
 rcases h.1.2 with ⟨rfl, h0⟩ | ⟨g, cap, cur, rfl, hg, hh, hnc, hcp, hcs, htake⟩
 · obtain rfl : l = [] := List.length_eq_zero_iff.1 h0
   exact ⟨none, 0, rfl, Nat.le_refl _, by omega, SampsAt.nil _ _⟩
 · unfold maxLen at hcp
   have e : ∀ j, (⟨g, 0, none⟩ : Addr).add j = ⟨g, 0 + j, none⟩ := fun j => by unfold Addr.add; split <;> simp_all
   refine ⟨_, cap, rfl, hnc, hcp, h.2, by omega, fun _ => ⟨g, 0, rfl, (Array.getElem?_eq_some_iff.1 hh).1, fun j hj => ?_⟩⟩
   have hs := s8s_get l j hj
   have h1 := h.1.cells (g := g) rfl _ _ hs.1
   have h2 := h.1.cells (g := g) rfl _ _ hs.2
   rw [e] at h1 h2
   exact ⟨h1, h2⟩
theorem OwnS.kept {B : Nat} {w w' : World} {v : Value} {l : List (Int × Int)} (h : OwnS B w v l) {row : Option Nat} (hg : w.grownBy w' row) (hne : v.ownBlock = none ∨ v.ownBlock ≠ row) : OwnS B w' v l := ⟨h.1.kept hg hne, h.2⟩
theorem OwnS.alloc {B : Nat} {w : World} {v : Value} {l : List (Int × Int)} (h : OwnS B w v l) (o : Obj) : OwnS B (w.alloc o) v l := ⟨h.1.alloc o, h.2⟩
theorem OwnS.drew {B : Nat} {w : World} {v : Value} {l : List (Int × Int)} (h : OwnS B w v l) : OwnS B w.drew v l := h
theorem OwnS.nil_ (B : Nat) (w : World) : OwnS B w (.slice none 0 0) [] := ⟨World.ownsRow_nil _ _ _ _, IsS.nil⟩
theorem OwnS.ext {B : Nat} {w w' : World} {v : Value} {l : List (Int × Int)} (h : OwnS B w v l) (e : Ext w w') : OwnS B w' v l := by
 refine ⟨?_, h.2⟩
 obtain ⟨h1, h2 | ⟨g, cap, cur, hv, hg, hh, r⟩⟩ := h.1
 · exact ⟨h1, Or.inl h2⟩
 · exact ⟨h1, Or.inr ⟨g, cap, cur, hv, hg, by rw [e.block g (Array.getElem?_eq_some_iff.1 hh).1]; exact hh, r⟩⟩
theorem OwnS.less {B B' : Nat} {w : World} {v : Value} {l : List (Int × Int)} (h : OwnS B w v l) (hB : B' ≤ B) : OwnS B' w v l := by
 refine ⟨?_, h.2⟩
 obtain ⟨h1, h2 | ⟨g, cap, cur, hv, hg, r⟩⟩ := h.1
 · exact ⟨h1, Or.inl h2⟩
 · exact ⟨h1, Or.inr ⟨g, cap, cur, hv, by omega, r⟩⟩
theorem OwnS.upd {B b : Nat} {w w' : World} {v : Value} {l : List (Int × Int)} (h : OwnS B w v l) (u : Upd b w w') (hb : b < B) : OwnS B w' v l := by
 refine ⟨?_, h.2⟩
 obtain ⟨h1, h2 | ⟨g, cap, cur, hv, hg, hh, r⟩⟩ := h.1
 · exact ⟨h1, Or.inl h2⟩
 · exact ⟨h1, Or.inr ⟨g, cap, cur, hv, hg, by rw [u.2.2.2.2 g (Array.getElem?_eq_some_iff.1 hh).1 (by omega)]; exact hh, r⟩⟩
theorem SampsAt.upd {b : Nat} {w w' : World} {A : Option Addr} {l : List (Int × Int)} (h : SampsAt w A l) (u : Upd b w w') (hb : ∀ g off, A = some ⟨g, off, none⟩ → g ≠ b) : SampsAt w' A l :=
 h.keep u.2.2.2.1 fun g off hA hg => u.2.2.2.2 g hg (hb g off hA)
theorem own_samps {w : World} {A : Option Addr} {c cap B : Nat} {l : List (Int × Int)} (h : OwnS B w (.slice A c cap) l) : SampsAt w A l := by
 obtain ⟨A', cap', he, _, _, hw⟩ := h.at_
 cases he
 exact hw
theorem info_parts2 {i : Option TypeInfo} {z : Value} {a b : Nat} (h : i.map (fun i => (i.zero, i.size, i.bytes)) = some (some z, a, b)) : ∃ x, i = some x ∧ x.zero = some z ∧ x.size = a ∧ x.bytes = b := by
 cases i with
 | none => simp at h
 | some x =>
   simp only [Option.map_some, Option.some.injEq, Prod.mk.injEq] at h
   exact ⟨x, rfl, h.1, h.2.1, h.2.2⟩
theorem run_appendS (B : Nat) (w : World) (ty : TypeId) (v : Value) (l0 l : List (Int × Int)) (hown : OwnS B w v l0) (A : Option Addr) (m c : Nat) (hb : SampsAt w A l) (hm : l.length = m) (hlen : l0.length + l.length ≤ 8796093022208) (hbase : B ≤ w.heap.size) :
   ∃ v' w', (Builtin.append_ #[76, 76] ty #[v, .slice A m c]).run Try.prog w = .ok v' w' ∧ OwnS B w' v' (l0 ++ l) ∧ w.grownBy w' v.ownBlock ∧ (v'.ownBlock = v.ownBlock ∨ v'.ownBlock = some w.heap.size) := by
 subst hm
 obtain ⟨i0, hi0, hz0, hz1, hz2⟩ := info_parts2 info_sm
 have h63 : l0.length + l.length ≤ maxLen := by unfold maxLen; omega
 rcases A with _ | ad
 · have h0 : l = [] := by
     rcases Nat.eq_zero_or_pos l.length with h | h
     · exact List.length_eq_zero_iff.1 h
     · obtain ⟨b, off, h', _⟩ := hb.2.2 h
       cases h'
   subst h0
   refine ⟨v, w, ?_, by rw [List.append_nil]; exact hown, World.grownBy.refl w _, .inl rfl⟩
   rcases hown.1.2 with ⟨rfl, _⟩ | ⟨g, cap, cur, rfl, _, _, hnc, _⟩
   · simp [Builtin.append_, run_underlying Try.underlying76, sizeOf, typeInfo, hi0, Builtin.lenOf, Builtin.firstCells]
   · simp [Builtin.append_, run_underlying Try.underlying76, sizeOf, typeInfo, hi0, Builtin.lenOf, Builtin.firstCells, hnc, storeCells]
 · have hcells : ∀ j u, (s8s l)[j]? = some u → w.cell? (ad.add j) = some u := by
     intro j u hu
     have hj : j < l.length * 2 := by
       rcases Nat.lt_or_ge j (s8s l).length with h | h
       · rwa [s8s_len] at h
       · rw [List.getElem?_eq_none h] at hu; cases hu
     obtain ⟨b, off, h', _, hc⟩ := hb.2.2 (by omega)
     obtain rfl : ad = ⟨b, off, none⟩ := Option.some.inj h'
     have hs := s8s_get l (j / 2) (by omega)
     have hcj := hc (j / 2) (by omega)
     rw [add_at]
     rcases Nat.mod_two_eq_zero_or_one j with h | h
     · have e : 2 * (j / 2) = j := by omega
       rw [e] at hs hcj
       rw [hcj.1, ← hu, hs.1]
     · have e : 2 * (j / 2) + 1 = j := by omega
       rw [e] at hs hcj
       rw [hcj.2, ← hu, hs.2]
   obtain ⟨v', w', hrun, h2, h3, _, h5⟩ := run_append_own_at (P := Try.prog) w B 76 ty 79 i0 _ 2 16 Try.underlying76 hi0 hz0 hz1 hz2 rfl (by omega) v l0.length (s8s l0) hown.1 ad l.length c (s8s l) (s8s_len l) hcells (s8s_one l) h63 (by omega) hbase
   refine ⟨v', w', hrun, ⟨?_, hown.2.app hb.1⟩, h3, h5⟩
   rw [s8s_app, List.length_append]
   exact h2
theorem wl_appendS {ops : Array Oper} {rest : List Oper} {o : Oper} {a : Act} {Q : Exit → Act → World → Prop} {w : World} (hgd : o.guard = none) (s x : Operand)
   (ho : o.op = .call { callee := .builtin .append, args := #[s, x], argTypes := #[76, 76] })
   (B : Nat) (v : Value) (l0 l : List (Int × Int)) (hs : a.eval s = v) (hown : OwnS B w v l0) (A : Option Addr) (m c : Nat) (hx : a.eval x = .slice A m c) (hb : SampsAt w A l) (hm : l.length = m) (hlen : l0.length + l.length ≤ 8796093022208) (hbase : B ≤ w.heap.size)
   (h : ∀ v' w', OwnS B w' v' (l0 ++ l) → w.grownBy w' v.ownBlock → (v'.ownBlock = v.ownBlock ∨ v'.ownBlock = some w.heap.size) → wpList Try.prog ops Q rest (a.put o.dst v') w') : wpList Try.prog ops Q (o :: rest) a w :=
 wpList_plain hgd fun _ hK => by
   obtain ⟨v', w', hrun, h2, h3, h4⟩ := run_appendS B w o.type v l0 l hown A m c hb hm hlen hbase
   unfold Oper.wp execOp
   simp only [ho, resolve, invoke, builtin, Sem.run_bind, Sem.run_pure, Result.andThen_ok, List.map_toArray, List.map_cons, List.map_nil, hs, hx, hrun]
   exact hK _ _ (h v' w' h2 h3 h4)
theorem one_atS (w : World) (x y : Int) (hx : I64 x) (hy : I64 y) : SampsAt (w.alloc (.cells #[.int .i64 x, .int .i64 y] 79)) (some ⟨w.heap.size, 0, none⟩) [(x, y)] := by
 refine ⟨IsS.one hx hy, by simp, fun _ => ⟨w.heap.size, 0, rfl, by simp, fun j hj => ?_⟩⟩
 obtain rfl : j = 0 := by simpa using hj
 exact ⟨by rw [World.cell?_alloc_at _ _ _ _ rfl]; rfl, by rw [World.cell?_alloc_at _ _ _ _ rfl]; rfl⟩
theorem idxS (b off N cap j : Nat) (h : j < N) (w : World) : (Instr.indexAt 76 (.slice (some ⟨b, off, none⟩) N cap) (.int .i64 (j : Int))).run Try.prog w = .ok (.pointer (some ⟨b, off + 2 * j, none⟩)) w := by
 have hz := Try.sizeOf79
 have he : Try.prog.elem 76 = 79 := by kernel_rfl
 have hr := run_indexAt_slice (P := Try.prog) (w := w) 76 ⟨b, off, none⟩ N cap .i64 (j : Int) (by kernel_rfl)
 rw [hr, if_pos ⟨by omega, by omega⟩, he, hz]
 simp [Result.andThen, add_at, Nat.mul_comm]
end
section
open Go Go.RowKit
theorem info_co : (Try.prog.info? 53).map (fun i => (i.zero, i.size, i.bytes)) = some (some (.agg #[.int .i64 0, .int .i64 0]), 2, 16) := by kernel_rfl
def OwnC (B : Nat) (w : World) (v : Value) (l : List (Int × Int)) : Prop := w.ownsRow B 53 2 v l.length (s8s l) ∧ IsS l
theorem OwnC.at_ {B : Nat} {w : World} {v : Value} {l : List (Int × Int)} (h : OwnC B w v l) : ∃ A cap, v = .slice A l.length cap ∧ l.length ≤ cap ∧ cap ≤ 9223372036854775807 ∧ SampsAt w A l := by
 rcases h.1.2 with ⟨rfl, h0⟩ | ⟨g, cap, cur, rfl, hg, hh, hnc, hcp, hcs, htake⟩
 · obtain rfl : l = [] := List.length_eq_zero_iff.1 h0
   exact ⟨none, 0, rfl, Nat.le_refl _, by omega, SampsAt.nil _ _⟩
 · unfold maxLen at hcp
   have e : ∀ j, (⟨g, 0, none⟩ : Addr).add j = ⟨g, 0 + j, none⟩ := fun j => by unfold Addr.add; split <;> simp_all
   refine ⟨_, cap, rfl, hnc, hcp, h.2, by omega, fun _ => ⟨g, 0, rfl, (Array.getElem?_eq_some_iff.1 hh).1, fun j hj => ?_⟩⟩
   have hs := s8s_get l j hj
   have h1 := h.1.cells (g := g) rfl _ _ hs.1
   have h2 := h.1.cells (g := g) rfl _ _ hs.2
   rw [e] at h1 h2
   exact ⟨h1, h2⟩
theorem OwnC.kept {B : Nat} {w w' : World} {v : Value} {l : List (Int × Int)} (h : OwnC B w v l) {row : Option Nat} (hg : w.grownBy w' row) (hne : v.ownBlock = none ∨ v.ownBlock ≠ row) : OwnC B w' v l := ⟨h.1.kept hg hne, h.2⟩
theorem OwnC.alloc {B : Nat} {w : World} {v : Value} {l : List (Int × Int)} (h : OwnC B w v l) (o : Obj) : OwnC B (w.alloc o) v l := ⟨h.1.alloc o, h.2⟩
theorem OwnC.drew {B : Nat} {w : World} {v : Value} {l : List (Int × Int)} (h : OwnC B w v l) : OwnC B w.drew v l := h
theorem OwnC.nil_ (B : Nat) (w : World) : OwnC B w (.slice none 0 0) [] := ⟨World.ownsRow_nil _ _ _ _, IsS.nil⟩
theorem OwnC.ext {B : Nat} {w w' : World} {v : Value} {l : List (Int × Int)} (h : OwnC B w v l) (e : Ext w w') : OwnC B w' v l := by
 refine ⟨?_, h.2⟩
 obtain ⟨h1, h2 | ⟨g, cap, cur, hv, hg, hh, r⟩⟩ := h.1
 · exact ⟨h1, Or.inl h2⟩
 · exact ⟨h1, Or.inr ⟨g, cap, cur, hv, hg, by rw [e.block g (Array.getElem?_eq_some_iff.1 hh).1]; exact hh, r⟩⟩
theorem OwnC.less {B B' : Nat} {w : World} {v : Value} {l : List (Int × Int)} (h : OwnC B w v l) (hB : B' ≤ B) : OwnC B' w v l := by
 refine ⟨?_, h.2⟩
 obtain ⟨h1, h2 | ⟨g, cap, cur, hv, hg, r⟩⟩ := h.1
 · exact ⟨h1, Or.inl h2⟩
 · exact ⟨h1, Or.inr ⟨g, cap, cur, hv, by omega, r⟩⟩
theorem OwnC.upd {B b : Nat} {w w' : World} {v : Value} {l : List (Int × Int)} (h : OwnC B w v l) (u : Upd b w w') (hb : b < B) : OwnC B w' v l := by
 refine ⟨?_, h.2⟩
 obtain ⟨h1, h2 | ⟨g, cap, cur, hv, hg, hh, r⟩⟩ := h.1
 · exact ⟨h1, Or.inl h2⟩
 · exact ⟨h1, Or.inr ⟨g, cap, cur, hv, hg, by rw [u.2.2.2.2 g (Array.getElem?_eq_some_iff.1 hh).1 (by omega)]; exact hh, r⟩⟩
theorem own_co {w : World} {A : Option Addr} {c cap B : Nat} {l : List (Int × Int)} (h : OwnC B w (.slice A c cap) l) : SampsAt w A l := by
 obtain ⟨A', cap', he, _, _, hw⟩ := h.at_
 cases he
 exact hw
theorem run_appendC (B : Nat) (w : World) (ty : TypeId) (v : Value) (l0 l : List (Int × Int)) (hown : OwnC B w v l0) (A : Option Addr) (m c : Nat) (hb : SampsAt w A l) (hm : l.length = m) (hlen : l0.length + l.length ≤ 8796093022208) (hbase : B ≤ w.heap.size) :
   ∃ v' w', (Builtin.append_ #[46, 46] ty #[v, .slice A m c]).run Try.prog w = .ok v' w' ∧ OwnC B w' v' (l0 ++ l) ∧ w.grownBy w' v.ownBlock ∧ (v'.ownBlock = v.ownBlock ∨ v'.ownBlock = some w.heap.size) := by
 subst hm
 obtain ⟨i0, hi0, hz0, hz1, hz2⟩ := info_parts2 info_co
 have h63 : l0.length + l.length ≤ maxLen := by unfold maxLen; omega
 rcases A with _ | ad
 · have h0 : l = [] := by
     rcases Nat.eq_zero_or_pos l.length with h | h
     · exact List.length_eq_zero_iff.1 h
     · obtain ⟨b, off, h', _⟩ := hb.2.2 h
       cases h'
   subst h0
   refine ⟨v, w, ?_, by rw [List.append_nil]; exact hown, World.grownBy.refl w _, .inl rfl⟩
   rcases hown.1.2 with ⟨rfl, _⟩ | ⟨g, cap, cur, rfl, _, _, hnc, _⟩
   · simp [Builtin.append_, run_underlying Try.underlying46, sizeOf, typeInfo, hi0, Builtin.lenOf, Builtin.firstCells]
   · simp [Builtin.append_, run_underlying Try.underlying46, sizeOf, typeInfo, hi0, Builtin.lenOf, Builtin.firstCells, hnc, storeCells]
 · have hcells : ∀ j u, (s8s l)[j]? = some u → w.cell? (ad.add j) = some u := by
     intro j u hu
     have hj : j < l.length * 2 := by
       rcases Nat.lt_or_ge j (s8s l).length with h | h
       · rwa [s8s_len] at h
       · rw [List.getElem?_eq_none h] at hu; cases hu
     obtain ⟨b, off, h', _, hc⟩ := hb.2.2 (by omega)
     obtain rfl : ad = ⟨b, off, none⟩ := Option.some.inj h'
     have hs := s8s_get l (j / 2) (by omega)
     have hcj := hc (j / 2) (by omega)
     rw [add_at]
     rcases Nat.mod_two_eq_zero_or_one j with h | h
     · have e : 2 * (j / 2) = j := by omega
       rw [e] at hs hcj
       rw [hcj.1, ← hu, hs.1]
     · have e : 2 * (j / 2) + 1 = j := by omega
       rw [e] at hs hcj
       rw [hcj.2, ← hu, hs.2]
   obtain ⟨v', w', hrun, h2, h3, _, h5⟩ := run_append_own_at (P := Try.prog) w B 46 ty 53 i0 _ 2 16 Try.underlying46 hi0 hz0 hz1 hz2 rfl (by omega) v l0.length (s8s l0) hown.1 ad l.length c (s8s l) (s8s_len l) hcells (s8s_one l) h63 (by omega) hbase
   refine ⟨v', w', hrun, ⟨?_, hown.2.app hb.1⟩, h3, h5⟩
   rw [s8s_app, List.length_append]
   exact h2
theorem wl_appendC {ops : Array Oper} {rest : List Oper} {o : Oper} {a : Act} {Q : Exit → Act → World → Prop} {w : World} (hgd : o.guard = none) (s x : Operand)
   (ho : o.op = .call { callee := .builtin .append, args := #[s, x], argTypes := #[46, 46] })
   (B : Nat) (v : Value) (l0 l : List (Int × Int)) (hs : a.eval s = v) (hown : OwnC B w v l0) (A : Option Addr) (m c : Nat) (hx : a.eval x = .slice A m c) (hb : SampsAt w A l) (hm : l.length = m) (hlen : l0.length + l.length ≤ 8796093022208) (hbase : B ≤ w.heap.size)
   (h : ∀ v' w', OwnC B w' v' (l0 ++ l) → w.grownBy w' v.ownBlock → (v'.ownBlock = v.ownBlock ∨ v'.ownBlock = some w.heap.size) → wpList Try.prog ops Q rest (a.put o.dst v') w') : wpList Try.prog ops Q (o :: rest) a w :=
 wpList_plain hgd fun _ hK => by
   obtain ⟨v', w', hrun, h2, h3, h4⟩ := run_appendC B w o.type v l0 l hown A m c hb hm hlen hbase
   unfold Oper.wp execOp
   simp only [ho, resolve, invoke, builtin, Sem.run_bind, Sem.run_pure, Result.andThen_ok, List.map_toArray, List.map_cons, List.map_nil, hs, hx, hrun]
   exact hK _ _ (h v' w' h2 h3 h4)
theorem below_grownC {W w w' : World} {v : Value} {l : List (Int × Int)} {B : Nat} (h : Below W.heap.size W w) (hB : W.heap.size ≤ B) (hown : OwnC B w v l) (hg : w.grownBy w' v.ownBlock) : Below W.heap.size W w' :=
 h.grown hg h.size (fun k hk => by
   obtain ⟨h1, h2⟩ := hown.1.lt k hk
   omega)
theorem idxC (b off N cap j : Nat) (h : j < N) (w : World) : (Instr.indexAt 46 (.slice (some ⟨b, off, none⟩) N cap) (.int .i64 (j : Int))).run Try.prog w = .ok (.pointer (some ⟨b, off + 2 * j, none⟩)) w := by
 have hz := Try.sizeOf53
 have he : Try.prog.elem 46 = 53 := by kernel_rfl
 have hr := run_indexAt_slice (P := Try.prog) (w := w) 46 ⟨b, off, none⟩ N cap .i64 (j : Int) (by kernel_rfl)
 rw [hr, if_pos ⟨by omega, by omega⟩, he, hz]
 simp [Result.andThen, add_at, Nat.mul_comm]
theorem step_appendC {ops : Array Oper} {o : Oper} {a : Act} {K : Act → World → Prop} {Q : Exit → Act → World → Prop} {w : World} {E : Prop} (hgd : o.guard = none) (s x : Operand)
   (ho : o.op = .call { callee := .builtin .append, args := #[s, x], argTypes := #[46, 46] })
   (B : Nat) (v : Value) (l0 l : List (Int × Int)) (hs : a.eval s = v) (A : Option Addr) (m c : Nat) (hx : a.eval x = .slice A m c) (hown : OwnC B w v l0) (hb : SampsAt w A l) (hm : l.length = m) (hlen : l0.length + l.length ≤ 8796093022208) (hbase : B ≤ w.heap.size)
   (h : ∀ v' w', OwnC B w' v' (l0 ++ l) → w.grownBy w' v.ownBlock → (v'.ownBlock = v.ownBlock ∨ v'.ownBlock = some w.heap.size) → K (a.put o.dst v') w') :
   if Region.wanted o (yielded ops a.tmps) = true then Oper.wp Try.prog o a w K Q else E := by
 have hw : Region.wanted o (yielded ops a.tmps) = true := by simp [Region.wanted, hgd]
 rw [if_pos hw]
 obtain ⟨v', w', hrun, h2, h3, h4⟩ := run_appendC B w o.type v l0 l hown A m c hb hm hlen hbase
 unfold Oper.wp execOp
 simp only [ho, resolve, invoke, builtin, Sem.run_bind, Sem.run_pure, Result.andThen_ok, List.map_toArray, List.map_cons, List.map_nil, hs, hx, hrun]
 exact h v' w' h2 h3 h4
end
section
open Go Go.RowKit Go.Sort
attribute [local go_sem] qUpon eUpon putE slE
def tolB (e : Int) : Bool := decide (0 ≤ e) && decide (e ≤ 4611686018427387904)
theorem tolB_iff {e : Int} : tolB e = true ↔ Tol e := by unfold tolB Tol; simp
theorem r_tolI (e : Int) (W : World) (v : Bool) (hv : tolB e = v) : Calls Try.prog 27 #[.int .i64 e] W (Ret (.bool v) W) := by
 subst hv
 by_cases h0 : 0 ≤ e
 · by_cases h1 : e ≤ 4611686018427387904
   · have c0 : decide (0 ≤ e) = true := decide_eq_true h0
     have c1 : decide (e ≤ 4611686018427387904) = true := decide_eq_true h1
     unfold tolB
     rw [c0, c1]
     clear h0 h1
     go_enter Try.func27, Try.ntmps27
     go_wp2_with fail
     go_ret
     exact ⟨rfl, Ext.refl _⟩
   · have c0 : decide (0 ≤ e) = true := decide_eq_true h0
     have c1 : decide (e ≤ 4611686018427387904) = false := decide_eq_false h1
     unfold tolB
     rw [c0, c1]
     clear h0 h1
     go_enter Try.func27, Try.ntmps27
     go_wp2_with fail
     go_ret
     exact ⟨rfl, Ext.refl _⟩
 · have c0 : decide (0 ≤ e) = false := decide_eq_false h0
   unfold tolB
   rw [c0, Bool.false_and]
   clear h0
   go_enter Try.func27, Try.ntmps27
   go_wp2_with fail
   go_ret
   exact ⟨rfl, Ext.refl _⟩
theorem res2 {fn : Func} {p u : Tmp} {ty : TypeId} (h : fn.results = #[.cell p ty, .tmp u]) (tmps : Array Value) (w : World) (g : Nat) (t : TypeId) (cs : Array Value) (d : TypeDesc)
   (hp : tmps.getD p undef = .pointer (some ⟨g, 0, none⟩)) (hg : Blk w g t cs)
   (hu : Try.prog.underlying ty = some d) (hd : (match (generalizing := false) d with | .struct _ | .array _ _ => true | _ => false) = true) (hi : (Try.prog.info? ty).map (·.size) = some cs.size) :
   (results fn tmps).run Try.prog w = .ok (.tuple #[.agg cs, tmps.getD u undef]) w := by
 have hp' : tmps[p]?.getD undef = .pointer (some ⟨g, 0, none⟩) := by simpa using hp
 simp [results, h, hp', asAddr, run_loadVar_row w g t ty cs (0, 0) d hg hu (by cases d <;> first | rfl | exact hd) hi, Sem.run_bind, Result.andThen]
theorem res3 {fn : Func} {p u u2 : Tmp} {ty : TypeId} (h : fn.results = #[.cell p ty, .tmp u, .tmp u2]) (tmps : Array Value) (w : World) (g : Nat) (t : TypeId) (cs : Array Value) (d : TypeDesc)
   (hp : tmps.getD p undef = .pointer (some ⟨g, 0, none⟩)) (hg : Blk w g t cs)
   (hu : Try.prog.underlying ty = some d) (hd : (match (generalizing := false) d with | .struct _ | .array _ _ => true | _ => false) = true) (hi : (Try.prog.info? ty).map (·.size) = some cs.size) :
   (results fn tmps).run Try.prog w = .ok (.tuple #[.agg cs, tmps.getD u undef, tmps.getD u2 undef]) w := by
 have hp' : tmps[p]?.getD undef = .pointer (some ⟨g, 0, none⟩) := by simpa using hp
 simp [results, h, hp', asAddr, run_loadVar_row w g t ty cs (0, 0) d hg hu (by cases d <;> first | rfl | exact hd) hi, Sem.run_bind, Result.andThen]
theorem q_buildM {a : Act} {o : Oper} {w : World} {t : TypeId} {parts : Array (Nat × Operand)} {vs : Array (Nat × Value)} {cells : Array Value} (ho : o.op = .build t parts) (hx : (parts.map fun (i, x) => (i, a.eval x)) = vs) (h : Try.prog.built t vs.toList = some cells) : qUpon Try.prog w (.agg cells) ((execOp a.eval o).run Try.prog w) := by
 have hr := run_build (P := Try.prog) w t vs cells h
 unfold execOp
 simp only [ho, hx, Sem.run_bind, hr, Result.andThen_ok, Sem.run_pure]
 exact ⟨rfl, rfl⟩
def CoGet (l : List (Int × Int)) (W : World) (e : Ending) (w' : World) : Prop := ∃ A c, e = .returned (.slice A l.length c) ∧ OwnC W.heap.size w' (.slice A l.length c) l ∧ Ext W w'
def CoFin (l : List (Int × Int)) (er : Nat) (W : World) (e : Ending) (w' : World) : Prop := ∃ A c, e = .returned (.tuple #[.slice A l.length c, .int .i64 (er : Int)]) ∧ OwnC W.heap.size w' (.slice A l.length c) l ∧ Ext W w'
theorem one_co {w : World} {B : Nat} {c m : Int} (hc : I64 c) (hm : I64 m) (hB : B ≤ w.heap.size) : OwnC B (w.alloc (.cells #[.int .i64 c, .int .i64 m] 53)) (.slice (some ⟨w.heap.size, 0, none⟩) 1 1) [(c, m)] := by
 refine ⟨⟨rfl, Or.inr ⟨w.heap.size, 1, _, rfl, hB, heap_alloc_new w _, Nat.le_refl _, by unfold maxLen; omega, rfl, rfl⟩⟩, IsS.one hc hm⟩
def CoPair (R : Array Value) (l : List (Int × Int)) (W : World) (e : Ending) (w' : World) : Prop := ∃ A k, e = .returned (.tuple #[.agg R, .slice A l.length k]) ∧ OwnC W.heap.size w' (.slice A l.length k) l ∧ Ext W w'
theorem st_all {w : World} {g : Nat} {t ty : TypeId} {X Y : Array Value} {n : Nat} (h : Blk w g t X) (hi : (Try.prog.info? ty).map (·.size) = some n) (hX : X.size = n) (hY : Y.size = n) (hO : Y.all (·.oneCell') = true) : (Instr.storeAt ty (.pointer (some ⟨g, 0, none⟩)) (.agg Y)).run Try.prog w = .ok () (w.setRow g Y) :=
 run_store_part h ty 0 n hi (by omega) Y hY hO Y (by
   have : X.toList.drop (0 + n) = [] := List.drop_eq_nil_of_le (by simp; omega)
   rw [this]; simp)
theorem tol64 {eps : Int} (he : Tol eps) : I64 eps := ⟨by have := he.1; omega, by have := he.2; omega⟩
def CoTrip (R : Array Value) (l : List (Int × Int)) (er : Nat) (W : World) (e : Ending) (w' : World) : Prop := ∃ A k, e = .returned (.tuple #[.agg R, .slice A l.length k, .int .i64 (er : Int)]) ∧ OwnC W.heap.size w' (.slice A l.length k) l ∧ Ext W w'
theorem trip_nil {R : Array Value} {er : Nat} {W w' : World} {e : Ending} (h : Ret (.tuple #[.agg R, .slice none 0 0, .int .i64 (er : Int)]) W e w') : CoTrip R [] er W e w' := ⟨none, 0, h.1, OwnC.nil_ _ _, h.2⟩
def CE (W0 : World) (Y : Array Value) (l : List (Int × Int)) (s : Nat) (R : Nat → Value) (w : World) : Prop := Ext W0 w ∧ (0 < s → ∃ A k, R 0 = .tuple #[.agg Y, .slice A l.length k] ∧ OwnC W0.heap.size w (.slice A l.length k) l)
theorem ce_below {W0 : World} {Y : Array Value} {l : List (Int × Int)} : ∀ s R w w', CE W0 Y l s R w → Below w.heap.size w w' → CE W0 Y l s R w' := fun s R w w' h k =>
 ⟨h.1.trans k, fun hs => by
   obtain ⟨A, c, h1, h2⟩ := h.2 hs
   exact ⟨A, c, h1, h2.ext k⟩⟩
theorem ce_new {W0 w w1 : World} {Y : Array Value} {l : List (Int × Int)} {s : Nat} {R : Nat → Value} {g : Nat} {f : Obj} {cs : Array Value} {T : TypeId} (h : CE W0 Y l s R w) (hF : Filled w w1 g f) (hg : W0.heap.size ≤ g) (hz : w.heap[g]? = some (.cells cs T (0, 0))) (hT : T ≠ 53) : CE W0 Y l s R w1 :=
 ⟨ext_filled h.1 hF hg, fun hs => by
   obtain ⟨A, c, h1, h2, h3⟩ := h.2 hs
   refine ⟨A, c, h1, ?_, h3⟩
   obtain ⟨h4, h5 | ⟨g', cap, cur, hv, hg', hh, r⟩⟩ := h2
   · exact ⟨h4, Or.inl h5⟩
   · refine ⟨h4, Or.inr ⟨g', cap, cur, hv, hg', ?_, r⟩⟩
     rw [hF.2.1 g' (fun e => by subst e; rw [hz] at hh; injection hh with hh; injection hh with _ hh _; exact hT hh)]
     exact hh⟩
theorem ce_ev {W0 w w' : World} {Y : Array Value} {l : List (Int × Int)} {R : Nat → Value} {A : Option Addr} {k : Nat} (h : CE W0 Y l 0 R w) (hO : OwnC w.heap.size w' (.slice A l.length k) l) (hE : Ext w w') : CE W0 Y l 1 (updR R 0 (.tuple #[.agg Y, .slice A l.length k])) w' ∧ GrowE (fun _ => False) w w' :=
 ⟨⟨h.1.trans hE, fun _ => ⟨A, k, by unfold updR; rw [if_pos rfl], hO.less h.1.size⟩⟩, Below.growE hE⟩
theorem OwnC.updT {B b : Nat} {w w' : World} {v : Value} {l : List (Int × Int)} {cs : Array Value} {T : TypeId} (h : OwnC B w v l) (u : Upd b w w') (hb : Blk w b T cs) (hT : T ≠ 53) : OwnC B w' v l := by
 obtain ⟨⟨h1, h2⟩, h3⟩ := h
 refine ⟨⟨h1, ?_⟩, h3⟩
 rcases h2 with h2 | ⟨g, cap, cur, hv, hg, hh, r⟩
 · exact Or.inl h2
 · refine Or.inr ⟨g, cap, cur, hv, hg, ?_, r⟩
   rw [u.2.2.2.2 g (Array.getElem?_eq_some_iff.1 hh).1 (fun e => by subst e; unfold Blk at hb; rw [hb] at hh; injection hh with hh; injection hh with _ hh _; exact hT hh)]
   exact hh
def sl1 : Value → Value
 | .tuple ⟨[_, b]⟩ => b
 | v => v
theorem sl1_eq (x y : Value) : sl1 (.tuple #[x, y]) = y := rfl
theorem q_extr {a : Act} {o : Oper} {w : World} {x : Operand} {i : Nat} {r v : Value} (ho : o.op = .extract x i) (hx : a.eval x = r) (h : ∃ y z, r = .tuple #[y, z] ∧ ((i = 0 ∧ v = y) ∨ (i = 1 ∧ v = z))) : qUpon Try.prog w v ((execOp a.eval o).run Try.prog w) := by
 obtain ⟨y, z, rfl, h⟩ := h
 unfold execOp
 simp only [ho, hx]
 rcases h with ⟨rfl, rfl⟩ | ⟨rfl, rfl⟩ <;> go_simp
theorem ce_x0 {W0 w : World} {Y : Array Value} {l : List (Int × Int)} {s : Nat} {R : Nat → Value} (h : CE W0 Y l s R w) (hs : 1 ≤ s) : ∃ y z, R 0 = .tuple #[y, z] ∧ ((0 = 0 ∧ Value.agg Y = y) ∨ (0 = 1 ∧ Value.agg Y = z)) := by
 obtain ⟨A, k, e, _⟩ := h.2 hs
 exact ⟨_, _, e, Or.inl ⟨rfl, rfl⟩⟩
theorem ce_x1 {W0 w : World} {Y : Array Value} {l : List (Int × Int)} {s : Nat} {R : Nat → Value} (h : CE W0 Y l s R w) (hs : 1 ≤ s) : ∃ y z, R 0 = .tuple #[y, z] ∧ ((1 = 0 ∧ sl1 (R 0) = y) ∨ (1 = 1 ∧ sl1 (R 0) = z)) := by
 obtain ⟨A, k, e, _⟩ := h.2 hs
 exact ⟨_, _, e, Or.inr ⟨rfl, by rw [e]; rfl⟩⟩
theorem eqC2 (a b a' b' : Int) (w : World) : (binOp .eql 53 (.agg #[.int .i64 a, .int .i64 b]) (.agg #[.int .i64 a', .int .i64 b'])).run Try.prog w = .ok (.bool (a == a' && b == b')) w := by
 have hS : Try.prog.underlying 53 = some (.struct (Try.prog.fieldsOf 53)) := by kernel_rfl
 have hp : Try.prog.stoodInHeld 53 = false := by kernel_rfl
 have u := Try.underlying2
 have z := Try.sizeOf2
 have u2 := Try.underlying3
 have z2 := Try.sizeOf3
 rw [run_eql_struct, show (10000 : Nat) = 9999 + 1 from rfl, run_equalIn_agg w 9999 53 _ _ hS hp]
 simp only [Program.fieldsOf, Try.underlying53]
 have he : ∀ (x y : Int) (w : World), (Op.equalIn 9999 2 (.int .i64 x) (.int .i64 y)).run Try.prog w = .ok (x == y) w := fun x y w => run_equalIn_int w 9998 2 .i64 .i64 x y u
 have he2 : ∀ (x y : Int) (w : World), (Op.equalIn 9999 3 (.int .i64 x) (.int .i64 y)).run Try.prog w = .ok (x == y) w := fun x y w => run_equalIn_int w 9998 3 .i64 .i64 x y u2
 simp [Op.eqFields, Go.part, isAgg, run_underlying u, run_underlying u2, u, u2, z, z2, he, he2]
 by_cases h0 : a = a' <;> by_cases h1 : b = b' <;> simp [h0, h1]
theorem neC2 (a b : Int) (w : World) : (binOp .neq 53 (.agg #[.int .i64 a, .int .i64 b]) (.agg #[.int .i64 a, .int .i64 b])).run Try.prog w = .ok (.bool false) w := by
 have h := eqC2 a b a b w
 simp only [BEq.rfl, Bool.and_self] at h
 rw [run_eql_struct] at h
 have h : (Op.equalIn 10000 53 (.agg #[.int .i64 a, .int .i64 b]) (.agg #[.int .i64 a, .int .i64 b])).run Try.prog w = .ok true w := by
   generalize (Op.equalIn 10000 53 (.agg #[.int .i64 a, .int .i64 b]) (.agg #[.int .i64 a, .int .i64 b])).run Try.prog w = r at h ⊢
   cases r <;> simp_all [Result.andThen]
 simp only [binOp]
 simp [Op.equal, Op.maxDepth, h, Result.andThen]
set_option maxHeartbeats 3200000 in
set_option maxRecDepth 100000 in
theorem r_sameC (A A2 : Option Addr) (n c c2 : Nat) (x : List (Int × Int)) (W : World) (hx : SampsAt W A x) (hxn : x.length = n) (hy : SampsAt W A2 x) :
   Calls Try.prog 20 #[.slice A n c, .slice A2 n c2] W (Ret (.bool true) W) := by
 have hn63 : n ≤ 9223372036854775807 := by have := hx.2.1; omega
 have d0 : ((n : Int) != (n : Int)) = false := by simp
 have HX := hide hx
 have HY := hide hy
 have Hxn := hide hxn
 have E1 : Hid (Ext W W) := Ext.refl _
 clear hx hy hxn
 go_enter Try.func20, Try.ntmps20
 go_wp2_with fail
 go_loopw [5] (fun iv wr => ∃ i : Nat, i ≤ n ∧ iv = .int .i64 (i : Int) ∧ Hid (Ext W wr)) (fun iv _ => n - (intOf iv).toNat)
 case atStart => exact ⟨0, by omega, rfl, E1⟩
 case round =>
   clear E1
   obtain ⟨i, hi, rfl, HE⟩ := hrel
   by_cases hlt : i < n
   · have d1 : decide ((i : Int) < (n : Int)) = true := decide_eq_true (by omega)
     have hix : i < x.length := by rw [Hxn.out]; exact hlt
     obtain ⟨b1, o1, rfl, hb1, hc1⟩ := (HX.out.ext HE.out).2.2 (by omega)
     obtain ⟨b2, o2, rfl, hb2, hc2⟩ := (HY.out.ext HE.out).2.2 (by omega)
     have p1 := (hc1 i hix).1
     have p2 := (hc1 i hix).2
     have q1 := (hc2 i hix).1
     have q2 := (hc2 i hix).2
     rw [← Nat.add_assoc] at p2 q2
     have ixa := fun w => idxC b1 o1 n c i hlt w
     have ixb := fun w => idxC b2 o2 n c2 i hlt w
     obtain ⟨u, hu⟩ : ∃ z, (x.getD i (0, 0)).1 = z := ⟨_, rfl⟩
     obtain ⟨v, hv⟩ : ∃ z, (x.getD i (0, 0)).2 = z := ⟨_, rfl⟩
     rw [hu] at p1 q1
     rw [hv] at p2 q2
     have ne := fun w => neC2 u v w
     have cp1 := fun d os => cell_regrown p1 d os
     have cp2 := fun d os => cell_regrown p2 d os
     have cq1 := fun d os => cell_regrown q1 d os
     have cq2 := fun d os => cell_regrown q2 d os
     clear hc1 hc2 hu hv hix hb1 hb2
     go_upto_region 6 with fail
     refine wp_region_quiet_below (by kernel_rfl) (by kernel_rfl) ?_
     repeat (first | go_big_quiet_step (fail) | quiet_step (fail))
     refine wpQuiet_nil ?_
     intro _ hw'
     obtain ⟨⟨dq, osq⟩, hw''⟩ := hw'
     subst hw''
     have HE2 := hide (HE.out.trans (ext_regrown wr dq osq))
     clear cp1 cp2 cq1 cq2 p1 p2 q1 q2 HE
     go_wp2_with fail
     go_roundw
     case rel => exact ⟨i + 1, by omega, by go_num, HE2⟩
     case measure => simp [intOf]; omega
   · obtain rfl : i = n := by omega
     have d1 : decide ((i : Int) < (i : Int)) = false := decide_eq_false (by omega)
     go_wp2_with fail
     go_ret
     exact ⟨rfl, HE.out⟩
structure Lk (W : World) (A : Option Addr) (n : Nat) (m : List Int) (w : World) : Prop where
 e : Ext W w
 o : TimesAt w A m
 len : m.length = n
theorem Lk.ext {W w w' : World} {A : Option Addr} {n : Nat} {m : List Int} (s : Lk W A n m w) (k : Ext w w') : Lk W A n m w' := ⟨s.e.trans k, s.o.ext k, s.len⟩
theorem upd_new {b g : Nat} {W w w' : World} (h : Upd b W w) (u : Upd g w w') (hg : W.heap.size ≤ g) : Upd b W w' := ⟨u.1.trans h.1, u.2.1.trans h.2.1, u.2.2.1.trans h.2.2.1, Nat.le_trans h.2.2.2.1 u.2.2.2.1, fun k hk hb => (u.2.2.2.2 k (Nat.lt_of_lt_of_le hk h.2.2.2.1) (by omega)).trans (h.2.2.2.2 k hk hb)⟩
theorem tape_upd {B b g : Nat} {w w' : World} (h : TapeOk B w b) (u : Upd g w w') (hg : b < g) : TapeOk B w' b := by
 have := h.2.1
 exact h.below ⟨u.1, u.2.1, u.2.2.1, u.2.2.2.1, fun k hk => u.2.2.2.2 k (by omega) (by omega)⟩
end
section
open Go Go.RowKit Go.Sort
def meC (t c lo hi z : Int) : Array Value := meR t c lo hi (sg z) (l0 z) (l1 z) (l2 z) (l3 z)
def z9m : Array Value := #[.int .i64 0, .int .i64 0, .int .i64 0, .int .i64 0, .bool false, .int .u64 0, .int .u64 0, .int .u64 0, .int .u64 0]
theorem meC_one (t c lo hi z : Int) : (meC t c lo hi z).all (·.oneCell') = true := by kernel_rfl
theorem z9m_one : z9m.all (·.oneCell') = true := by kernel_rfl
theorem z9m_is : z9m = meC 0 0 0 0 0 := by unfold meC meR z9m; rfl
theorem b_me0 : Try.prog.built 27 [] = some z9m := by kernel_rfl
theorem b_meT (e : Int) : Try.prog.built 27 [(0, .int .i64 e)] = some (meC e 0 0 0 0) := by rw [show meC e 0 0 0 0 = #[.int .i64 e, .int .i64 0, .int .i64 0, .int .i64 0, .bool false, .int .u64 0, .int .u64 0, .int .u64 0, .int .u64 0] by unfold meC meR; rfl]; kernel_rfl
theorem b_me4 (t c lo hi : Int) : Try.prog.built 27 [(0, .int .i64 t), (1, .int .i64 c), (2, .int .i64 lo), (3, .int .i64 hi)] = some (meC t c lo hi 0) := by rw [show meC t c lo hi 0 = #[.int .i64 t, .int .i64 c, .int .i64 lo, .int .i64 hi, .bool false, .int .u64 0, .int .u64 0, .int .u64 0, .int .u64 0] by unfold meC meR; rfl]; kernel_rfl
theorem b_me5 (t c lo hi z : Int) : Try.prog.built 27 [(0, .int .i64 t), (1, .int .i64 c), (2, .int .i64 lo), (3, .int .i64 hi), (4, .agg #[.bool (sg z), .int .u64 (l0 z : Int), .int .u64 (l1 z : Int), .int .u64 (l2 z : Int), .int .u64 (l3 z : Int)])] = some (meC t c lo hi z) := by kernel_rfl
theorem meC_sum (t c lo hi z : Int) : (meC t c lo hi z).extract 4 9 = #[.bool (sg z), .int .u64 (l0 z : Int), .int .u64 (l1 z : Int), .int .u64 (l2 z : Int), .int .u64 (l3 z : Int)] := by kernel_rfl
theorem uMean : Try.prog.underlying 27 = some (.struct (Try.prog.fieldsOf 27)) := by kernel_rfl
theorem iMean : (Try.prog.info? 27).map (·.size) = some 9 := by kernel_rfl
theorem meR_valid {t c lo hi : Int} {s : Bool} {a b d e : Nat} {z : Int} (h : IsW s a b d e z) (hv : ¬ (s = true ∧ z = 0)) : meR t c lo hi s a b d e = meC t c lo hi z ∧ F256 z := by
 obtain ⟨rfl, rfl, rfl, rfl, rfl⟩ := isC_fix (s := s) (a := a) (b := b) (c := d) (d := e) (z := z) ⟨h, fun hs hz => hv ⟨hs, hz⟩⟩
 exact ⟨rfl, isW_fits h⟩
end
section
open Go Go.RowKit Go.Sort
theorem eq_agg (X : Array Value) (T : TypeId) (h : Try.prog.eqGuardType Try.prog.depth T = false) (Y : Array Value) (b : BinOp) (x y : Operand) (w : World) : (eqGuard b T x y (.agg X) (.agg Y)).run Try.prog w = .ok () w := by
 have hp : ∀ w, Sem.run Try.prog (Sem.program Sem.pure) w = .ok Try.prog w := fun _ => rfl
 unfold eqGuard
 cases b <;> simp [program, h, hp, Sem.run_bind, Result.andThen]
def z5 : Array Value := #[.bool false, .int .u64 0, .int .u64 0, .int .u64 0, .int .u64 0]
theorem uWide : Try.prog.underlying 25 = some (.struct (Try.prog.fieldsOf 25)) := by kernel_rfl
theorem iWide : (Try.prog.info? 25).map (·.size) = some 5 := by kernel_rfl
end
section
open Go Go.RowKit
set_option maxRecDepth 100000 in
set_option maxHeartbeats 2000000 in
theorem p_int64 (s : Bool) (a b c d : Nat) (z : Int) (w : World) (h : IsW s a b c d z) :
   Calls Try.prog 77 #[.agg #[.bool s, .int .u64 (a : Int), .int .u64 (b : Int), .int .u64 (c : Int), .int .u64 (d : Int)]] w (PairRet .i64 (if -9223372036854775808 ≤ z ∧ z ≤ 9223372036854775807 then z else 0) (decide (-9223372036854775808 ≤ z ∧ z ≤ 9223372036854775807)) w) := by
 obtain ⟨r, hr⟩ : ∃ r, (if -9223372036854775808 ≤ z ∧ z ≤ 9223372036854775807 then z else 0) = r := ⟨_, rfl⟩
 obtain ⟨o, ho⟩ : ∃ o, decide (-9223372036854775808 ≤ z ∧ z ≤ 9223372036854775807) = o := ⟨_, rfl⟩
 rw [hr, ho]
 have hlow : mag4 a b c d < 18446744073709551616 → a = mag4 a b c d := by intro h; simp only [mag4, val] at h ⊢; omega
 have hz := h.2.2.2.2
 have ha := h.1
 have HX := hide (ext_alloc w (.cells #[.bool s, .int .u64 (a : Int), .int .u64 (b : Int), .int .u64 (c : Int), .int .u64 (d : Int)] 25))
 obtain ⟨n, hn⟩ : ∃ n, mag4 a b c d = n := ⟨_, rfl⟩
 rw [hn] at hlow hz
 clear h
 have yes : -9223372036854775808 ≤ z → z ≤ 9223372036854775807 → z = r ∧ true = o := fun h1 h2 => ⟨by rw [← hr, if_pos ⟨h1, h2⟩], by rw [← ho]; symm; rw [decide_eq_true_iff]; exact ⟨h1, h2⟩⟩
 have no : ¬ (-9223372036854775808 ≤ z ∧ z ≤ 9223372036854775807) → 0 = r ∧ false = o := fun h1 => ⟨by rw [← hr, if_neg h1], by rw [← ho]; symm; rw [decide_eq_false_iff_not]; exact h1⟩
 by_cases hb : n < 18446744073709551616
 · have hO : Hid (decide (mag4 a b c d < 18446744073709551616) = true) := by unfold Hid; rw [decide_eq_true_iff, hn]; exact hb
   replace hlow := hlow hb
   have hcase : (s = true ∧ a ≤ 9223372036854775807 ∧ -(a : Int) = r ∧ true = o) ∨ (s = false ∧ a ≤ 9223372036854775807 ∧ (a : Int) = r ∧ true = o) ∨ (s = true ∧ a = 9223372036854775808 ∧ -9223372036854775808 = r ∧ true = o) ∨ (s = false ∧ 9223372036854775808 ≤ a ∧ 0 = r ∧ false = o) ∨ (s = true ∧ 9223372036854775808 < a ∧ 0 = r ∧ false = o) := by
     cases s
     · simp only [Bool.false_eq_true, if_false] at hz
       by_cases h1 : a ≤ 9223372036854775807
       · have := yes (by omega) (by omega); exact Or.inr (Or.inl ⟨rfl, h1, by omega, this.2⟩)
       · have := no (by omega); exact Or.inr (Or.inr (Or.inr (Or.inl ⟨rfl, by omega, this⟩)))
     · simp only [if_true] at hz
       by_cases h1 : a ≤ 9223372036854775807
       · have := yes (by omega) (by omega); exact Or.inl ⟨rfl, h1, by omega, this.2⟩
       · by_cases h2 : a = 9223372036854775808
         · have := yes (by omega) (by omega); exact Or.inr (Or.inr (Or.inl ⟨rfl, h2, by omega, this.2⟩))
         · have := no (by omega); exact Or.inr (Or.inr (Or.inr (Or.inr ⟨rfl, by omega, this⟩)))
   clear hlow hz hn hr ho yes no hb
   rcases hcase with ⟨rfl, h1, h2⟩ | ⟨rfl, h1, h2⟩ | ⟨rfl, h1, h2⟩ | ⟨rfl, h1, h2⟩ | ⟨rfl, h1, h2⟩
   · have HR := hide h2
     have hI : (a : Int) ≤ 9223372036854775807 := by omega
     have hw : Hid (wrap64 (-wrap64 (a : Int)) = -(a : Int)) := by unfold Hid; simp only [wrap64]; omega
     clear h1 h2
     go_enter Try.func77, Try.ntmps77
     go_wp2_with (go_at_call 89; refine (p_oneWord a b c d _ ha).mono ?_; rintro e' w' ⟨rfl, hE⟩; rw [hO.out]; have q := one_kept hE; obtain ⟨c0, c1, c2, c3, c4, f0, f1, f2, f3, f4⟩ := five_cells q; have HE := hide (HX.out.trans hE); clear q hE)
     all_goals go_ret2
     all_goals exact ⟨rb2' (by rw [← HR.out.1]) HR.out.2, HE.out⟩
   · have HR := hide h2
     have hI : (a : Int) ≤ 9223372036854775807 := by omega
     clear h1 h2
     go_enter Try.func77, Try.ntmps77
     go_wp2_with (go_at_call 89; refine (p_oneWord a b c d _ ha).mono ?_; rintro e' w' ⟨rfl, hE⟩; rw [hO.out]; have q := one_kept hE; obtain ⟨c0, c1, c2, c3, c4, f0, f1, f2, f3, f4⟩ := five_cells q; have HE := hide (HX.out.trans hE); clear q hE)
     all_goals go_ret2
     all_goals exact ⟨rb2' (by rw [← HR.out.1]) HR.out.2, HE.out⟩
   · have HR := hide h2
     have hI : ¬ ((a : Int) ≤ 9223372036854775807) := by omega
     have hJ : ((a : Int) == 9223372036854775808) = true := by simp; omega
     clear h1 h2
     go_enter Try.func77, Try.ntmps77
     go_wp2_with (go_at_call 89; refine (p_oneWord a b c d _ ha).mono ?_; rintro e' w' ⟨rfl, hE⟩; rw [hO.out]; have q := one_kept hE; obtain ⟨c0, c1, c2, c3, c4, f0, f1, f2, f3, f4⟩ := five_cells q; have HE := hide (HX.out.trans hE); clear q hE)
     all_goals go_ret2
     all_goals exact ⟨rb2' (by rw [← HR.out.1]) HR.out.2, HE.out⟩
   · have HR := hide h2
     have hI : ¬ ((a : Int) ≤ 9223372036854775807) := by omega
     clear h1 h2
     go_enter Try.func77, Try.ntmps77
     go_wp2_with (go_at_call 89; refine (p_oneWord a b c d _ ha).mono ?_; rintro e' w' ⟨rfl, hE⟩; rw [hO.out]; have q := one_kept hE; obtain ⟨c0, c1, c2, c3, c4, f0, f1, f2, f3, f4⟩ := five_cells q; have HE := hide (HX.out.trans hE); clear q hE)
     all_goals go_ret2
     all_goals exact ⟨rb2' (by rw [← HR.out.1]) HR.out.2, HE.out⟩
   · have HR := hide h2
     have hI : ¬ ((a : Int) ≤ 9223372036854775807) := by omega
     have hJ : ((a : Int) == 9223372036854775808) = false := by simp; omega
     clear h1 h2
     go_enter Try.func77, Try.ntmps77
     go_wp2_with (go_at_call 89; refine (p_oneWord a b c d _ ha).mono ?_; rintro e' w' ⟨rfl, hE⟩; rw [hO.out]; have q := one_kept hE; obtain ⟨c0, c1, c2, c3, c4, f0, f1, f2, f3, f4⟩ := five_cells q; have HE := hide (HX.out.trans hE); clear q hE)
     all_goals go_ret2
     all_goals exact ⟨rb2' (by rw [← HR.out.1]) HR.out.2, HE.out⟩
 · have hO : Hid (decide (mag4 a b c d < 18446744073709551616) = false) := by unfold Hid; rw [decide_eq_false_iff_not, hn]; exact hb
   have HR : Hid (0 = r ∧ false = o) := no (by cases s <;> simp only [Bool.false_eq_true, if_false, if_true] at hz <;> omega)
   clear hlow hz hn hr ho yes no hb
   go_enter Try.func77, Try.ntmps77
   go_wp2_with (go_at_call 89; refine (p_oneWord a b c d _ ha).mono ?_; rintro e' w' ⟨rfl, hE⟩; rw [hO.out]; have q := one_kept hE; obtain ⟨c0, c1, c2, c3, c4, f0, f1, f2, f3, f4⟩ := five_cells q; have HE := hide (HX.out.trans hE); clear q hE)
   all_goals go_ret2
   all_goals exact ⟨rb2' HR.out.1 HR.out.2, HE.out⟩
end
section
open Go Go.RowKit
def TmRet (r : List Int × Int × Int) (W : World) (e : Ending) (w' : World) : Prop := ∃ v, e = .returned (.tuple #[v, .int .i64 r.2.1, .int .i64 r.2.2]) ∧ OwnT W.heap.size w' v r.1 ∧ Ext W w'
theorem TmRet.parts {r : List Int × Int × Int} {W : World} {e : Ending} {w' : World} (h : TmRet r W e w') : ∃ A cap, e = .returned (.tuple #[.slice A r.1.length cap, .int .i64 r.2.1, .int .i64 r.2.2]) ∧ r.1.length ≤ cap ∧ cap ≤ 9223372036854775807 ∧ OwnT W.heap.size w' (.slice A r.1.length cap) r.1 ∧ TimesAt w' A r.1 ∧ Ext W w' := by
 obtain ⟨v, rfl, hO, hE⟩ := h
 obtain ⟨A, cap, rfl, h1, h2, h3⟩ := hO.at_
 exact ⟨A, cap, rfl, h1, h2, hO, h3, hE⟩
end
section
open Go Go.RowKit
def TimesPost (N B b : Nat) (W : World) (e : Ending) (w' : World) : Prop := ∃ A n cap l, e = .returned (.slice A n cap) ∧ l.length = n ∧ n ≤ N ∧ n ≤ cap ∧ cap ≤ 9223372036854775807 ∧ incB l = true ∧ OwnT W.heap.size w' (.slice A n cap) l ∧ TapeOk B w' b ∧ Upd b W w'
theorem shr_le {u q k : Nat} (hu : u < 18446744073709551616) (h : k ≤ q) : u >>> q ≤ 18446744073709551615 / 2 ^ k := by
 rw [Nat.shiftRight_eq_div_pow]
 exact Nat.le_trans (Nat.div_le_div_left (Nat.pow_le_pow_right (by omega) h) (Nat.two_pow_pos k)) (Nat.div_le_div_right (by omega))
theorem incB_init {l : List Int} {x : Int} (h : incB (l ++ [x]) = true) : incB l = true := by
 rw [incB_iff] at h ⊢
 intro i hi
 have := h i (by simp; omega)
 rwa [getD_appL [x] (by omega), getD_appL [x] (by omega)] at this
set_option maxHeartbeats 6400000 in
set_option maxRecDepth 100000 in
theorem t_times (N B b : Nat) (hN : N ≤ 1000) (W : World) (hT : TapeOk B W b) : Calls Try.prog 60 #[.pointer (some ⟨b, 0, none⟩), .int .i64 (N : Int)] W (TimesPost N B b W) := by
 have hbW := hT.2.1
 have i5 : I64 5 := ⟨by omega, by omega⟩
 have i50 : I64 50 := ⟨by omega, by omega⟩
 have i9 : I64 9 := ⟨by omega, by omega⟩
 have i3 : I64 3 := ⟨by omega, by omega⟩
 have i56 : I64 56 := ⟨by omega, by omega⟩
 have i8 : I64 8 := ⟨by omega, by omega⟩
 have iN : I64 ((N : Int) + 1) := ⟨by omega, by omega⟩
 have HT := hide hT
 clear hT
 go_enter Try.func60, Try.ntmps60
 go_upto_region 3 with (go_at_call 11; (with_reducible refine (t_next B b 5 _ i5 HT.out).mono ?_); rintro e w1 ⟨s, rfl, hs, T1, u1⟩; obtain ⟨kd, rfl⟩ := Int.eq_ofNat_of_zero_le hs.1; have hkd : kd < 5 := (by have := hs.2.1 (by omega); omega); have T1 := hide T1; have U1 := hide u1; clear hs u1)
 go_upto_region 4 with (go_at_call 25; (with_reducible refine (t_int B b W _ T1.out U1.out).mono ?_); rintro e w2 ⟨at0, rfl, ha, T2, u2⟩; have T2 := hide T2; have U2 := hide u2; clear u2 T1 U1)
 go_upto_region 5 with (go_at_call 11; (with_reducible refine (t_next B b 50 _ i50 T2.out).mono ?_); rintro e w3 ⟨s, rfl, hs, T3, u3⟩; obtain ⟨s0, rfl⟩ := Int.eq_ofNat_of_zero_le hs.1; have hs0 : s0 < 50 := (by have := hs.2.1 (by omega); omega); obtain ⟨st, hst⟩ : ∃ st, 1 + s0 = st := ⟨_, rfl⟩; have es : IntKind.u64.wrap ((1 : Int) + (s0 : Int)) = (st : Int) := (by rw [wrap_u64']; omega); have T3 := hide T3; have U3 := hide (U2.out.trans u3); clear hs u3 T2 U2)
 have hst1 : 1 ≤ st := by omega
 have hst2 : st ≤ 50 := by omega
 clear hst es
 go_upto_region 6 with (go_at_call 11; (with_reducible refine (t_next B b ((N : Int) + 1) _ iN T3.out).mono ?_); rintro e w4 ⟨s, rfl, hs, T4, u4⟩; obtain ⟨i0, rfl⟩ := Int.eq_ofNat_of_zero_le hs.1; have hi0 : i0 ≤ N := (by have := hs.2.1 (by omega); omega); have T4 := hide T4; have U4 := hide (U3.out.trans u4); clear hs u4 T3 U3)
 have HA0 := hide ha
 clear ha HT
 go_wp2_with fail
 go_loopw [5, 7, 9] (fun lv av iv wr => ∃ (i : Nat) (a : Int) (ll : List Int), iv = .int .i64 (i : Int) ∧ av = .int .i64 a ∧ ll.length + i ≤ N ∧ Hid (I64 a) ∧ Hid (incB (ll ++ [a]) = true) ∧ Hid (OwnT W.heap.size wr lv ll) ∧ Hid (TapeOk B wr b) ∧ Hid (Upd b W wr)) (fun _ _ iv _ => (intOf iv).toNat)
 case atStart => exact ⟨i0, at0, [], rfl, rfl, by simp; omega, HA0, hide (by simp [incB]), hide (OwnT.nil_ _ _), T4, U4⟩
 case round =>
   clear T4 U4 HA0
   obtain ⟨i, a, ll, rfl, rfl, hli, HA, HI, HO, HT, HU⟩ := hrel
   by_cases h0 : 0 < i
   · have d0 : decide ((0 : Int) < (i : Int)) = true := decide_eq_true (by omega)
     have O5 := hide (HO.out.alloc (.cells #[Value.int .i64 a] 2))
     have hone := hide (one_atT wr a HA.out _ rfl)
     have T5 := hide (HT.out.alloc (.cells #[Value.int .i64 a] 2))
     have U5 := hide (HU.out.trans (Ext.upd (ext_alloc wr (.cells #[Value.int .i64 a] 2)) b))
     have hsz : W.heap.size ≤ (wr.alloc (.cells #[Value.int .i64 a] 2)).heap.size := U5.out.2.2.2.1
     have hle5 : ll.length + [a].length ≤ 17592186044416 := (by simp; omega)
     clear HO HT HU
     go_upto_region 9 with (at_builtin; refine wl_appendT rfl (.tmp 27) (.tmp 29) rfl W.heap.size _ ll [a] rfl O5.out _ 1 1 rfl hone.out rfl hle5 hsz ?_; intro v6 w6 hO6 hG6 hA6; have hG := O5.out.1.lt; have O6 := hide hO6; have T6 := hide (T5.out.below (grown_below hG6 (b + 1) (by omega) (fun k hk => by have := (hG k hk).1; omega))); have U6 := hide (upd_grown U5.out hG6 (fun k hk => (hG k hk).1)); clear hO6 hG6 hA6 hG O5 T5 U5 hone hsz)
     have hal := HA.out
     unfold I64 at hal
     obtain ⟨mm, hmm⟩ : ∃ mm : Nat, (9223372036854775807 : Int) - a = (mm : Int) := ⟨(9223372036854775807 - a).toNat, by omega⟩
     have em : IntKind.u64.wrap (9223372036854775807 - IntKind.u64.wrap a) = (mm : Int) := by rw [wrap_u64', wrap_u64']; omega
     have KE : Hid (∀ d : Nat, d ≤ mm → wrap64 (IntKind.u64.wrap (IntKind.u64.wrap a + (d : Int))) = a + (d : Int)) := hide (fun d hd => by rw [wrap_u64', wrap_u64']; simp only [wrap64]; omega)
     have KI : Hid (∀ d : Nat, 1 ≤ d → d ≤ mm → I64 (a + (d : Int)) ∧ incB (ll ++ [a] ++ [a + (d : Int)]) = true) := hide (fun d h1 h2 => ⟨⟨by omega, by omega⟩, incB_snoc (i := ll.length) HI.out (by simp) (by rw [getD_end]; omega)⟩)
     have hl2 : (ll ++ [a]).length = ll.length + 1 := by simp
     clear hal hmm hle5
     obtain rfl | rfl | rfl | rfl | rfl : kd = 0 ∨ kd = 1 ∨ kd = 2 ∨ kd = 3 ∨ kd = 4 := by omega
     · go_upto_region 20 with fail
       by_cases hcm : mm < st
       · have dm : decide ((mm : Int) < (st : Int)) = true := decide_eq_true (by omega)
         have dm2 : decide (mm < st) = true := decide_eq_true hcm
         go_wp2_with fail
         go_ret
         obtain ⟨A, cap, hv, h1, h2, h3⟩ := O6.out.at_
         have hO := O6.out
         subst hv
         exact ⟨A, _, cap, ll ++ [a], rfl, rfl, by omega, h1, h2, HI.out, hO, T6.out, U6.out⟩
       · have dm : decide ((mm : Int) < (st : Int)) = false := decide_eq_false (by omega)
         have dm2 : decide (mm < st) = false := decide_eq_false hcm
         have ea := KE.out (st) (by omega)
         obtain ⟨ki, kj⟩ := KI.out (st) (by omega) (by omega)
         obtain ⟨y, hy⟩ : ∃ y, a + ((st : Nat) : Int) = y := ⟨_, rfl⟩
         rw [hy] at ea ki kj
         have ki := hide ki
         have kj := hide kj
         clear hy
         go_wp2_with fail
         go_roundw
         case rel => exact ⟨i - 1, y, ll ++ [a], by go_num, by go_num, by omega, ki, kj, O6, T6, U6⟩
         case measure => simp [intOf]; omega
     · go_upto_region 20 with (go_at_call 11; (with_reducible refine (t_next B b 9 _ i9 T6.out).mono ?_); rintro e w7 ⟨s, rfl, hs, T7, u7⟩; obtain ⟨x, rfl⟩ := Int.eq_ofNat_of_zero_le hs.1; have hx : x < 9 := (by have := hs.2.1 (by omega); omega); obtain ⟨d, hd⟩ : ∃ d, 1 + x = d := ⟨_, rfl⟩; have e1 : IntKind.u64.wrap ((1 : Int) + (x : Int)) = (d : Int) := (by rw [wrap_u64']; omega); have T7 := hide T7; have U7 := hide (U6.out.trans u7); have O7 := hide (O6.out.upd u7 hbW); clear hs u7 T6 U6 O6)
       have hd1 : 1 ≤ d := by omega
       clear e1 hd
       by_cases hcm : mm < d
       · have dm : decide ((mm : Int) < (d : Int)) = true := decide_eq_true (by omega)
         have dm2 : decide (mm < d) = true := decide_eq_true hcm
         go_wp2_with fail
         go_ret
         obtain ⟨A, cap, hv, h1, h2, h3⟩ := O7.out.at_
         have hO := O7.out
         subst hv
         exact ⟨A, _, cap, ll ++ [a], rfl, rfl, by omega, h1, h2, HI.out, hO, T7.out, U7.out⟩
       · have dm : decide ((mm : Int) < (d : Int)) = false := decide_eq_false (by omega)
         have dm2 : decide (mm < d) = false := decide_eq_false hcm
         have ea := KE.out (d) (by omega)
         obtain ⟨ki, kj⟩ := KI.out (d) (by omega) (by omega)
         obtain ⟨y, hy⟩ : ∃ y, a + ((d : Nat) : Int) = y := ⟨_, rfl⟩
         rw [hy] at ea ki kj
         have ki := hide ki
         have kj := hide kj
         clear hy
         go_wp2_with fail
         go_roundw
         case rel => (repeat apply Exists.intro); exact ⟨⟨i - 1, y, ll ++ [a], by go_num, by go_num, by omega, ki, kj, O7, T7, U7⟩, rfl⟩
         case measure => simp [intOf]; omega
     · go_upto_region 20 with (go_at_call 11; (with_reducible refine (t_next B b 3 _ i3 T6.out).mono ?_); rintro e w7 ⟨s, rfl, hs, T7, u7⟩; obtain ⟨x, rfl⟩ := Int.eq_ofNat_of_zero_le hs.1; have hx : x < 3 := (by have := hs.2.1 (by omega); omega); have e0 : IntKind.u64.wrap (x : Int) = (x : Int) := (by rw [wrap_u64']; omega); obtain ⟨d, hd⟩ : ∃ d, st + x = d := ⟨_, rfl⟩; have e1 : IntKind.u64.wrap ((st : Int) + (x : Int)) = (d : Int) := (by rw [wrap_u64']; omega); have T7 := hide T7; have U7 := hide (U6.out.trans u7); have O7 := hide (O6.out.upd u7 hbW); clear hs u7 T6 U6 O6)
       have hd1 : 1 ≤ d := by omega
       clear e0 e1 hd
       by_cases hcm : mm < d
       · have dm : decide ((mm : Int) < (d : Int)) = true := decide_eq_true (by omega)
         have dm2 : decide (mm < d) = true := decide_eq_true hcm
         go_wp2_with fail
         go_ret
         obtain ⟨A, cap, hv, h1, h2, h3⟩ := O7.out.at_
         have hO := O7.out
         subst hv
         exact ⟨A, _, cap, ll ++ [a], rfl, rfl, by omega, h1, h2, HI.out, hO, T7.out, U7.out⟩
       · have dm : decide ((mm : Int) < (d : Int)) = false := decide_eq_false (by omega)
         have dm2 : decide (mm < d) = false := decide_eq_false hcm
         have ea := KE.out (d) (by omega)
         obtain ⟨ki, kj⟩ := KI.out (d) (by omega) (by omega)
         obtain ⟨y, hy⟩ : ∃ y, a + ((d : Nat) : Int) = y := ⟨_, rfl⟩
         rw [hy] at ea ki kj
         have ki := hide ki
         have kj := hide kj
         clear hy
         go_wp2_with fail
         go_roundw
         case rel => (repeat apply Exists.intro); exact ⟨⟨i - 1, y, ll ++ [a], by go_num, by go_num, by omega, ki, kj, O7, T7, U7⟩, rfl⟩
         case measure => simp [intOf]; omega
     · go_upto_region 20 with (first | (go_at_call 41; (with_reducible refine (t_word B b _ T6.out).mono ?_); rintro e w7 ⟨u, rfl, hu, T7, u7⟩; obtain ⟨xw, rfl⟩ := Int.eq_ofNat_of_zero_le hu.1; have hxw : xw < 18446744073709551616 := (by have := hu.2; omega); have T7 := hide T7; have U7 := hide (U6.out.trans u7); have O7 := hide (O6.out.upd u7 hbW); clear hu u7 T6 U6 O6) | (go_at_call 11; (with_reducible refine (t_next B b 56 _ i56 T7.out).mono ?_); rintro e w8 ⟨s, rfl, hs, T8, u8⟩; obtain ⟨x, rfl⟩ := Int.eq_ofNat_of_zero_le hs.1; have hx : x < 56 := (by have := hs.2.1 (by omega); omega); obtain ⟨q, hq⟩ : ∃ q : Nat, 4 + x = q := ⟨_, rfl⟩; have eq1 : (4 : Int) + (x : Int) = (q : Int) := (by omega); have hr := shr_le (q := q) (k := 4) hxw (by omega); have e1 := shr_cast xw q; obtain ⟨r, hrr⟩ : ∃ r, xw >>> q = r := ⟨_, rfl⟩; rw [hrr] at e1 hr; have hr2 : r ≤ 9223372036854775807 := (Nat.le_trans hr (by decide)); obtain ⟨d, hd⟩ : ∃ d, 1 + r = d := ⟨_, rfl⟩; have e2 : IntKind.u64.wrap ((1 : Int) + (r : Int)) = (d : Int) := (by rw [wrap_u64']; omega); have hq2 : q ≤ 64 := (by omega); clear hq hr hrr; have T8 := hide T8; have U8 := hide (U7.out.trans u8); have O8 := hide (O7.out.upd u8 hbW); clear hs u8 T7 U7 O7))
       have hd1 : 1 ≤ d := by omega
       clear e1 e2 eq1 hd
       by_cases hcm : mm < d
       · have dm : decide ((mm : Int) < (d : Int)) = true := decide_eq_true (by omega)
         have dm2 : decide (mm < d) = true := decide_eq_true hcm
         go_wp2_with fail
         go_ret
         obtain ⟨A, cap, hv, h1, h2, h3⟩ := O8.out.at_
         have hO := O8.out
         subst hv
         exact ⟨A, _, cap, ll ++ [a], rfl, rfl, by omega, h1, h2, HI.out, hO, T8.out, U8.out⟩
       · have dm : decide ((mm : Int) < (d : Int)) = false := decide_eq_false (by omega)
         have dm2 : decide (mm < d) = false := decide_eq_false hcm
         have ea := KE.out (d) (by omega)
         obtain ⟨ki, kj⟩ := KI.out (d) (by omega) (by omega)
         obtain ⟨y, hy⟩ : ∃ y, a + ((d : Nat) : Int) = y := ⟨_, rfl⟩
         rw [hy] at ea ki kj
         have ki := hide ki
         have kj := hide kj
         clear hy
         go_wp2_with fail
         go_roundw
         case rel => (repeat apply Exists.intro); exact ⟨⟨i - 1, y, ll ++ [a], by go_num, by go_num, by omega, ki, kj, O8, T8, U8⟩, rfl⟩
         case measure => simp [intOf]; omega
     · go_upto_if 59 with (go_at_call 61; (with_reducible refine (t_bool B b 4 _ _ (by omega) (by omega) T6.out (Upd.refl _ _)).mono ?_); rintro e w7 ⟨v, rfl, T7, u7⟩; have T7 := hide T7; have U7 := hide (U6.out.trans u7); have O7 := hide (O6.out.upd u7 hbW); clear u7 T6 U6 O6)
       cases v with
       | false =>
         go_upto_region 20 with fail
         by_cases hcm : mm < st
         · have dm : decide ((mm : Int) < (st : Int)) = true := decide_eq_true (by omega)
           have dm2 : decide (mm < st) = true := decide_eq_true hcm
           go_wp2_with fail
           go_ret
           obtain ⟨A, cap, hv, h1, h2, h3⟩ := O7.out.at_
           have hO := O7.out
           subst hv
           exact ⟨A, _, cap, ll ++ [a], rfl, rfl, by omega, h1, h2, HI.out, hO, T7.out, U7.out⟩
         · have dm : decide ((mm : Int) < (st : Int)) = false := decide_eq_false (by omega)
           have dm2 : decide (mm < st) = false := decide_eq_false hcm
           have ea := KE.out (st) (by omega)
           obtain ⟨ki, kj⟩ := KI.out (st) (by omega) (by omega)
           obtain ⟨y, hy⟩ : ∃ y, a + ((st : Nat) : Int) = y := ⟨_, rfl⟩
           rw [hy] at ea ki kj
           have ki := hide ki
           have kj := hide kj
           clear hy
           go_wp2_with fail
           go_roundw
           case rel => (repeat apply Exists.intro); exact ⟨⟨i - 1, y, ll ++ [a], by go_num, by go_num, by omega, ki, kj, O7, T7, U7⟩, rfl⟩
           case measure => simp [intOf]; omega
       | true =>
         go_upto_region 20 with (first | (go_at_call 41; (with_reducible refine (t_word B b _ T7.out).mono ?_); rintro e w8 ⟨u, rfl, hu, T8, u8⟩; obtain ⟨xw, rfl⟩ := Int.eq_ofNat_of_zero_le hu.1; have hxw : xw < 18446744073709551616 := (by have := hu.2; omega); have T8 := hide T8; have U8 := hide (U7.out.trans u8); have O8 := hide (O7.out.upd u8 hbW); clear hu u8 T7 U7 O7) | (go_at_call 11; (with_reducible refine (t_next B b 8 _ i8 T8.out).mono ?_); rintro e w9 ⟨s, rfl, hs, T9, u9⟩; obtain ⟨x, rfl⟩ := Int.eq_ofNat_of_zero_le hs.1; have hx : x < 8 := (by have := hs.2.1 (by omega); omega); obtain ⟨q, hq⟩ : ∃ q : Nat, 1 + x = q := ⟨_, rfl⟩; have eq1 : (1 : Int) + (x : Int) = (q : Int) := (by omega); have hr := shr_le (q := q) (k := 1) hxw (by omega); have e1 := shr_cast xw q; obtain ⟨r, hrr⟩ : ∃ r, xw >>> q = r := ⟨_, rfl⟩; rw [hrr] at e1 hr; have hr2 : r ≤ 9223372036854775807 := (Nat.le_trans hr (by decide)); obtain ⟨d, hd⟩ : ∃ d, 1 + r = d := ⟨_, rfl⟩; have e2 : IntKind.u64.wrap ((1 : Int) + (r : Int)) = (d : Int) := (by rw [wrap_u64']; omega); have hq2 : q ≤ 64 := (by omega); clear hq hr hrr; have T9 := hide T9; have U9 := hide (U8.out.trans u9); have O9 := hide (O8.out.upd u9 hbW); clear hs u9 T8 U8 O8))
         have hd1 : 1 ≤ d := by omega
         clear e1 e2 eq1 hd
         by_cases hcm : mm < d
         · have dm : decide ((mm : Int) < (d : Int)) = true := decide_eq_true (by omega)
           have dm2 : decide (mm < d) = true := decide_eq_true hcm
           go_wp2_with fail
           go_ret
           obtain ⟨A, cap, hv, h1, h2, h3⟩ := O9.out.at_
           have hO := O9.out
           subst hv
           exact ⟨A, _, cap, ll ++ [a], rfl, rfl, by omega, h1, h2, HI.out, hO, T9.out, U9.out⟩
         · have dm : decide ((mm : Int) < (d : Int)) = false := decide_eq_false (by omega)
           have dm2 : decide (mm < d) = false := decide_eq_false hcm
           have ea := KE.out (d) (by omega)
           obtain ⟨ki, kj⟩ := KI.out (d) (by omega) (by omega)
           obtain ⟨y, hy⟩ : ∃ y, a + ((d : Nat) : Int) = y := ⟨_, rfl⟩
           rw [hy] at ea ki kj
           have ki := hide ki
           have kj := hide kj
           clear hy
           go_wp2_with fail
           go_roundw
           case rel => (repeat apply Exists.intro); exact ⟨⟨i - 1, y, ll ++ [a], by go_num, by go_num, by omega, ki, kj, O9, T9, U9⟩, rfl⟩
           case measure => simp [intOf]; omega
   · have d0 : decide ((0 : Int) < (i : Int)) = false := decide_eq_false (by omega)
     go_wp2_with fail
     go_ret
     obtain ⟨A, cap, hv, h1, h2, h3⟩ := HO.out.at_
     have hO := HO.out
     subst hv
     exact ⟨A, _, cap, ll, rfl, rfl, by omega, h1, h2, incB_init HI.out, hO, HT.out, HU.out⟩
structure Bt (W : World) (B : Nat) (A : Option Addr) (n cap : Nat) (m : List Int) (w : World) : Prop where
 e : Ext W w
 t : TapeOk W.heap.size w W.heap.size
 o : OwnT B w (.slice A n cap) m
 gb : W.heap.size < B
section
variable {W : World} {B : Nat} {A : Option Addr} {n cap : Nat} {m : List Int} {w w' : World}
theorem Bt.ext (s : Bt W B A n cap m w) (k : Ext w w') : Bt W B A n cap m w' := ⟨s.e.trans k, s.t.ext k, s.o.ext k, s.gb⟩
theorem Bt.upd (s : Bt W B A n cap m w) (u : Upd W.heap.size w w') (t : TapeOk W.heap.size w' W.heap.size) : Bt W B A n cap m w' := ⟨Upd.ext u s.e (Nat.le_refl _), t, s.o.upd u s.gb, s.gb⟩
end
end
section
open Go Go.RowKit
theorem wr64 (x : Int) : ∃ p, wrap64 x = p ∧ IntKind.i64.wrap x = p ∧ I64 p := ⟨wrap64 x, rfl, by rw [IntKind.wrap_i64]; simp only [wrap64], i64_wrap x⟩
theorem TimesAt.cell {w : World} {b off : Nat} {l : List Int} (h : TimesAt w (some ⟨b, off, none⟩) l) {j : Nat} (hj : j < l.length) : w.cell? ⟨b, off + j, none⟩ = some (.int .i64 (l.getD j 0)) := by
 obtain ⟨b', off', he, _, hc⟩ := h.2.2 (by omega)
 cases he
 exact hc j hj
def SampsPost (N B b : Nat) (W : World) (e : Ending) (w' : World) : Prop := ∃ A n cap l, e = .returned (.slice A n cap) ∧ l.length = n ∧ n ≤ N ∧ n ≤ cap ∧ cap ≤ 9223372036854775807 ∧ incB (l.map Prod.fst) = true ∧ OwnS W.heap.size w' (.slice A n cap) l ∧ TapeOk B w' b ∧ Upd b W w'
structure Sg (W : World) (B b B1 : Nat) (Am : Option Addr) (n cap : Nat) (m : List Int) (lv : Value) (ll : List (Int × Int)) (w : World) : Prop where
 t : TapeOk B w b
 u : Upd b W w
 s : OwnS B1 w lv ll
 o : OwnT W.heap.size w (.slice Am n cap) m
 bw : B1 ≤ w.heap.size
section
variable {W : World} {B b B1 : Nat} {Am : Option Addr} {n cap : Nat} {m : List Int} {lv : Value} {ll : List (Int × Int)} {w w' : World}
theorem Sg.upd (h : Sg W B b B1 Am n cap m lv ll w) (hb : b < W.heap.size) (hB : W.heap.size ≤ B1) (u : Upd b w w') (t : TapeOk B w' b) : Sg W B b B1 Am n cap m lv ll w' :=
 ⟨t, h.u.trans u, h.s.upd u (Nat.lt_of_lt_of_le hb hB), h.o.upd u hb, Nat.le_trans h.bw u.2.2.2.1⟩
theorem Sg.alloc (h : Sg W B b B1 Am n cap m lv ll w) (o : Obj) : Sg W B b B1 Am n cap m lv ll (w.alloc o) :=
 ⟨h.t.alloc o, h.u.trans (Ext.upd (ext_alloc w o) b), h.s.alloc o, h.o.alloc o, Nat.le_trans h.bw (by simp)⟩
theorem Sg.grow (h : Sg W B b B1 Am n cap m lv ll w) (hb : b < W.heap.size) (hB : W.heap.size ≤ B1) (hq : (Value.slice Am n cap).ownBlock = none ∨ (Value.slice Am n cap).ownBlock ≠ lv.ownBlock) {v' : Value} {l' : List (Int × Int)} (hO : OwnS B1 w' v' l') (hG : w.grownBy w' lv.ownBlock) : Sg W B b B1 Am n cap m v' l' w' :=
 ⟨h.t.below (grown_below hG (b + 1) (Nat.lt_of_lt_of_le hb h.u.2.2.2.1) (fun k hk => by have := (h.s.1.lt k hk).1; omega)), upd_grown h.u hG (fun k hk => Nat.le_trans hB (h.s.1.lt k hk).1), hO, h.o.kept hG hq, Nat.le_trans h.bw (grown_below hG 0 (Nat.zero_le _) (fun _ _ => Nat.zero_le _)).size⟩
end
set_option maxHeartbeats 6400000 in
set_option maxRecDepth 100000 in
theorem t_samples (N B b : Nat) (hN : N ≤ 1000) (W : World) (hT : TapeOk B W b) : Calls Try.prog 40 #[.pointer (some ⟨b, 0, none⟩), .int .i64 (N : Int)] W (SampsPost N B b W) := by
 have hbW := hT.2.1
 have i7 : I64 7 := ⟨by omega, by omega⟩
 have i41 : I64 41 := ⟨by omega, by omega⟩
 have i9 : I64 9 := ⟨by omega, by omega⟩
 have i3 : I64 3 := ⟨by omega, by omega⟩
 have i400 : I64 400 := ⟨by omega, by omega⟩
 have i50 : I64 50 := ⟨by omega, by omega⟩
 have KT := hide (t_times N B b hN W hT)
 clear hT
 go_enter Try.func40, Try.ntmps40
 go_upto_region 2 with (go_at_call 60; (with_reducible refine (KT.out).mono ?_); rintro e w1 ⟨Am, n, cap, m, rfl, hm, hnN, hncap, hncap2, hinc, hO, T1, u1⟩; have T1 := hide T1; have U1 := hide u1; have O1 := hide hO; have Hm := hide hm; have Hinc := hide hinc; clear hO hm hinc u1)
 have hB1 : W.heap.size ≤ w1.heap.size := U1.out.2.2.2.1
 obtain ⟨B1, hBB⟩ : ∃ B1, w1.heap.size = B1 := ⟨_, rfl⟩
 have HQ : Hid (∀ w lv ll, OwnS B1 w lv ll → (Value.slice Am n cap).ownBlock = none ∨ (Value.slice Am n cap).ownBlock ≠ lv.ownBlock) := hide (fun w lv ll ho => by
   cases Am with
   | none => exact Or.inl rfl
   | some a =>
     right
     intro e
     have h1 := O1.out.1.lt a.block rfl
     have h2 := ho.1.lt a.block (by rw [← e]; rfl)
     omega)
 have S1 : Hid (Sg W B b B1 Am n cap m (.slice none 0 0) [] w1) := hide ⟨T1.out, U1.out, OwnS.nil_ _ _, O1.out, by omega⟩
 rw [hBB] at hB1
 clear hBB T1 U1 O1 KT
 go_upto_region 4 with (go_at_call 11; (with_reducible refine (t_next B b 7 _ i7 S1.out.t).mono ?_); rintro e w2 ⟨s, rfl, hs, T2, u2⟩; obtain ⟨kd, rfl⟩ := Int.eq_ofNat_of_zero_le hs.1; have hkd : kd < 7 := (by have := hs.2.1 (by omega); omega); have S2 := hide (S1.out.upd hbW hB1 u2 T2); clear hs u2 T2 S1)
 go_upto_region 5 with (first
   | (go_at_call 25; (with_reducible refine (t_int B b _ _ S2.out.t (Upd.refl _ _)).mono ?_); rintro e w3 ⟨v0, rfl, hv0, T3, u3⟩; have S3 := hide (S2.out.upd hbW hB1 u3 T3); have Hv0 := hide hv0; clear u3 T3 S2 hv0)
   | (go_at_call 11; (with_reducible refine (t_next B b 41 _ i41 S3.out.t).mono ?_); rintro e w4 ⟨s, rfl, hs, T4, u4⟩; have hs0 := hs.1; have hs1 := hs.2.1 (by omega); have S4 := hide (S3.out.upd hbW hB1 u4 T4); obtain ⟨sl, hsl⟩ : ∃ sl, s - 20 = sl := ⟨_, rfl⟩; clear hs u4 T4 S3))
 clear hs0 hs1 hsl
 go_wp2_with fail
 go_loopw [6, 8, 10] (fun lv av iv wr => ∃ (i : Nat) (vv : Int) (ll : List (Int × Int)), i ≤ n ∧ iv = .int .i64 (i : Int) ∧ av = .int .i64 vv ∧ Hid (I64 vv) ∧ Hid (ll.map Prod.fst = m.take i) ∧ Hid (Sg W B b B1 Am n cap m lv ll wr)) (fun _ _ iv _ => n - (intOf iv).toNat)
 case atStart => exact ⟨0, v0, [], by omega, rfl, rfl, Hv0, hide (by simp), S4⟩
 case round =>
   clear S4 Hv0
   obtain ⟨i, vv, ll, hi, rfl, rfl, HV, HL, S5⟩ := hrel
   by_cases h0 : i < n
   · have d0 : decide ((i : Int) < (n : Int)) = true := decide_eq_true (by omega)
     have him : i < m.length := by rw [Hm.out]; exact h0
     obtain ⟨bm, om, rfl, _, _⟩ := (own_times S5.out.o).2.2 (by omega)
     obtain ⟨tt, htt⟩ : ∃ tt, m.getD i 0 = tt := ⟨_, rfl⟩
     have itt : I64 tt := by rw [← htt]; exact S5.out.o.2.get i
     have KC : Hid (∀ w v l', Sg W B b B1 (some ⟨bm, om, none⟩) n cap m v l' w → w.cell? ⟨bm, om + i, none⟩ = some (.int .i64 tt)) := hide (fun w v l' s => by rw [← htt]; exact (own_times s.o).cell him)
     have ix := fun w => idxT bm om n cap i h0 w
     have HL2 : Hid (∀ X, (ll ++ [(tt, X)]).map Prod.fst = m.take (i + 1)) := hide (fun X => by rw [List.map_append, HL.out, takeT_succ him, htt]; rfl)
     have hll : ll.length = i := by
       have := congrArg List.length HL.out
       rw [List.length_map, List.length_take] at this
       omega
     have hle5 : Hid (∀ X : Int, ll.length + [(tt, X)].length ≤ 8796093022208) := hide (fun X => by simp; omega)
     have iv := HV.out
     clear htt him hll HL
     obtain rfl | rfl | rfl | rfl | rfl | rfl | rfl : kd = 0 ∨ kd = 1 ∨ kd = 2 ∨ kd = 3 ∨ kd = 4 ∨ kd = 5 ∨ kd = 6 := by omega
     · go_upto_region 24 with fail
       have ivv := iv
       have Hvv := hide iv
       have S20 := hide (S5.out.alloc (.cells #[.int .i64 tt, .int .i64 vv] 79))
       have ct0 := KC.out _ _ _ S5.out
       have ct := KC.out _ _ _ S20.out
       have hone := hide (one_atS wr tt vv itt ivv)
       have hsz := S20.out.bw
       clear S5
       go_wp2_with (at_builtin; refine wl_appendS rfl (.tmp 81) (.tmp 88) rfl B1 _ ll [(tt, vv)] rfl S20.out.s _ 1 1 rfl hone.out rfl (hle5.out vv) hsz ?_; intro v21 w21 hO21 hG21 hA21; have S21 := hide (S20.out.grow hbW hB1 (HQ.out _ _ _ S20.out.s) hO21 hG21); clear hO21 hG21 hA21)
       go_roundw
       case rel => (repeat apply Exists.intro); exact ⟨⟨i + 1, vv, ll ++ [(tt, vv)], by omega, by go_num, by go_num, Hvv, HL2.out vv, S21⟩, rfl⟩
       case measure => simp [intOf]; omega
     · have Hvv := hide iv
       obtain ⟨p, p1, p2, ip⟩ := wr64 ((i : Int) * sl)
       obtain ⟨X, X1, X2, iX⟩ := wr64 (vv + p)
       go_upto_region 24 with fail
       have S20 := hide (S5.out.alloc (.cells #[.int .i64 tt, .int .i64 X] 79))
       have ct0 := KC.out _ _ _ S5.out
       have ct := KC.out _ _ _ S20.out
       have hone := hide (one_atS wr tt X itt iX)
       have hsz := S20.out.bw
       clear S5
       go_wp2_with (at_builtin; refine wl_appendS rfl (.tmp 81) (.tmp 88) rfl B1 _ ll [(tt, X)] rfl S20.out.s _ 1 1 rfl hone.out rfl (hle5.out X) hsz ?_; intro v21 w21 hO21 hG21 hA21; have S21 := hide (S20.out.grow hbW hB1 (HQ.out _ _ _ S20.out.s) hO21 hG21); clear hO21 hG21 hA21)
       go_roundw
       case rel => (repeat apply Exists.intro); exact ⟨⟨i + 1, vv, ll ++ [(tt, X)], by omega, by go_num, by go_num, Hvv, HL2.out X, S21⟩, rfl⟩
       case measure => simp [intOf]; omega
     · have Hvv := hide iv
       obtain ⟨p, p1, p2, ip⟩ := wr64 ((i : Int) * sl)
       obtain ⟨q, q1, q2, iq⟩ := wr64 (vv + p)
       go_upto_region 24 with (go_at_call 11; (with_reducible refine (t_next B b 7 _ i7 S5.out.t).mono ?_); rintro e w6 ⟨s, rfl, hs, T, u⟩; obtain ⟨y, rfl⟩ := Int.eq_ofNat_of_zero_le hs.1; have hy : y < 7 := (by have := hs.2.1 (by omega); omega); have S6 := hide (S5.out.upd hbW hB1 u T); obtain ⟨X, X1, X2, iX⟩ := wr64 (q + ((y : Int) - 3)); clear hs u T S5)
       have S20 := hide (S6.out.alloc (.cells #[.int .i64 tt, .int .i64 X] 79))
       have ct0 := KC.out _ _ _ S6.out
       have ct := KC.out _ _ _ S20.out
       have hone := hide (one_atS w6 tt X itt iX)
       have hsz := S20.out.bw
       clear S6
       go_wp2_with (at_builtin; refine wl_appendS rfl (.tmp 81) (.tmp 88) rfl B1 _ ll [(tt, X)] rfl S20.out.s _ 1 1 rfl hone.out rfl (hle5.out X) hsz ?_; intro v21 w21 hO21 hG21 hA21; have S21 := hide (S20.out.grow hbW hB1 (HQ.out _ _ _ S20.out.s) hO21 hG21); clear hO21 hG21 hA21)
       go_roundw
       case rel => (repeat apply Exists.intro); exact ⟨⟨i + 1, vv, ll ++ [(tt, X)], by omega, by go_num, by go_num, Hvv, HL2.out X, S21⟩, rfl⟩
       case measure => simp [intOf]; omega
     · have Hvv := hide iv
       go_upto_region 24 with (go_at_call 11; (with_reducible refine (t_next B b 9 _ i9 S5.out.t).mono ?_); rintro e w6 ⟨s, rfl, hs, T, u⟩; obtain ⟨y, rfl⟩ := Int.eq_ofNat_of_zero_le hs.1; have hy : y < 9 := (by have := hs.2.1 (by omega); omega); have S6 := hide (S5.out.upd hbW hB1 u T); obtain ⟨X, X1, X2, iX⟩ := wr64 (vv + ((y : Int) - 4)); clear hs u T S5)
       have S20 := hide (S6.out.alloc (.cells #[.int .i64 tt, .int .i64 X] 79))
       have ct0 := KC.out _ _ _ S6.out
       have ct := KC.out _ _ _ S20.out
       have hone := hide (one_atS w6 tt X itt iX)
       have hsz := S20.out.bw
       clear S6
       go_wp2_with (at_builtin; refine wl_appendS rfl (.tmp 81) (.tmp 88) rfl B1 _ ll [(tt, X)] rfl S20.out.s _ 1 1 rfl hone.out rfl (hle5.out X) hsz ?_; intro v21 w21 hO21 hG21 hA21; have S21 := hide (S20.out.grow hbW hB1 (HQ.out _ _ _ S20.out.s) hO21 hG21); clear hO21 hG21 hA21)
       go_roundw
       case rel => (repeat apply Exists.intro); exact ⟨⟨i + 1, vv, ll ++ [(tt, X)], by omega, by go_num, by go_num, Hvv, HL2.out X, S21⟩, rfl⟩
       case measure => simp [intOf]; omega
     · have Hvv := hide iv
       go_upto_region 24 with (go_at_call 25; (with_reducible refine (t_int B b _ _ S5.out.t (Upd.refl _ _)).mono ?_); rintro e w6 ⟨X, rfl, iX, T, u⟩; have S6 := hide (S5.out.upd hbW hB1 u T); clear u T S5)
       have S20 := hide (S6.out.alloc (.cells #[.int .i64 tt, .int .i64 X] 79))
       have ct0 := KC.out _ _ _ S6.out
       have ct := KC.out _ _ _ S20.out
       have hone := hide (one_atS w6 tt X itt iX)
       have hsz := S20.out.bw
       clear S6
       go_wp2_with (at_builtin; refine wl_appendS rfl (.tmp 81) (.tmp 88) rfl B1 _ ll [(tt, X)] rfl S20.out.s _ 1 1 rfl hone.out rfl (hle5.out X) hsz ?_; intro v21 w21 hO21 hG21 hA21; have S21 := hide (S20.out.grow hbW hB1 (HQ.out _ _ _ S20.out.s) hO21 hG21); clear hO21 hG21 hA21)
       go_roundw
       case rel => (repeat apply Exists.intro); exact ⟨⟨i + 1, vv, ll ++ [(tt, X)], by omega, by go_num, by go_num, Hvv, HL2.out X, S21⟩, rfl⟩
       case measure => simp [intOf]; omega
     · go_upto_if 62 with (go_at_call 61; (with_reducible refine (t_boolN B b 5 _ _ (by omega) (by omega) S5.out.t (Upd.refl _ _)).mono ?_); rintro e w6 ⟨v, rfl, T, u⟩; have S6 := hide (S5.out.upd hbW hB1 u T); clear u T S5)
       cases v with
       | false =>
         have Hvv := hide iv
         go_upto_region 24 with (go_at_call 11; (with_reducible refine (t_next B b 3 _ i3 S6.out.t).mono ?_); rintro e w7 ⟨s, rfl, hs, T, u⟩; obtain ⟨z, rfl⟩ := Int.eq_ofNat_of_zero_le hs.1; have hz : z < 3 := (by have := hs.2.1 (by omega); omega); have S7 := hide (S6.out.upd hbW hB1 u T); obtain ⟨X, X1, X2, iX⟩ := wr64 (vv + (z : Int)); clear hs u T S6)
         have S20 := hide (S7.out.alloc (.cells #[.int .i64 tt, .int .i64 X] 79))
         have ct0 := KC.out _ _ _ S7.out
         have ct := KC.out _ _ _ S20.out
         have hone := hide (one_atS w7 tt X itt iX)
         have hsz := S20.out.bw
         clear S7
         go_wp2_with (at_builtin; refine wl_appendS rfl (.tmp 81) (.tmp 88) rfl B1 _ ll [(tt, X)] rfl S20.out.s _ 1 1 rfl hone.out rfl (hle5.out X) hsz ?_; intro v21 w21 hO21 hG21 hA21; have S21 := hide (S20.out.grow hbW hB1 (HQ.out _ _ _ S20.out.s) hO21 hG21); clear hO21 hG21 hA21)
         go_roundw
         case rel => (repeat apply Exists.intro); exact ⟨⟨i + 1, vv, ll ++ [(tt, X)], by omega, by go_num, by go_num, Hvv, HL2.out X, S21⟩, rfl⟩
         case measure => simp [intOf]; omega
       | true =>
         go_upto_region 24 with (first | (go_at_call 11; (with_reducible refine (t_next B b 400 _ i400 S6.out.t).mono ?_); rintro e w7 ⟨s, rfl, hs, T, u⟩; obtain ⟨y, rfl⟩ := Int.eq_ofNat_of_zero_le hs.1; have hy : y < 400 := (by have := hs.2.1 (by omega); omega); have S7 := hide (S6.out.upd hbW hB1 u T); obtain ⟨V2, V1, W2, iV2⟩ := wr64 (vv + ((y : Int) - 200)); have HV2 := hide iV2; clear hs u T S6) | (go_at_call 11; (with_reducible refine (t_next B b 3 _ i3 S7.out.t).mono ?_); rintro e w8 ⟨s, rfl, hs, T, u⟩; obtain ⟨z, rfl⟩ := Int.eq_ofNat_of_zero_le hs.1; have hz : z < 3 := (by have := hs.2.1 (by omega); omega); have S8 := hide (S7.out.upd hbW hB1 u T); obtain ⟨X, X1, X2, iX⟩ := wr64 (V2 + (z : Int)); clear hs u T S7))
         have S20 := hide (S8.out.alloc (.cells #[.int .i64 tt, .int .i64 X] 79))
         have ct0 := KC.out _ _ _ S8.out
         have ct := KC.out _ _ _ S20.out
         have hone := hide (one_atS w8 tt X itt iX)
         have hsz := S20.out.bw
         clear S8
         go_wp2_with (at_builtin; refine wl_appendS rfl (.tmp 81) (.tmp 88) rfl B1 _ ll [(tt, X)] rfl S20.out.s _ 1 1 rfl hone.out rfl (hle5.out X) hsz ?_; intro v21 w21 hO21 hG21 hA21; have S21 := hide (S20.out.grow hbW hB1 (HQ.out _ _ _ S20.out.s) hO21 hG21); clear hO21 hG21 hA21)
         go_roundw
         case rel => (repeat apply Exists.intro); exact ⟨⟨i + 1, V2, ll ++ [(tt, X)], by omega, by go_num, by go_num, HV2, HL2.out X, S21⟩, rfl⟩
         case measure => simp [intOf]; omega
     · have Hvv := hide iv
       go_upto_region 24 with (first | (go_at_call 11; (with_reducible refine (t_next B b 50 _ i50 S5.out.t).mono ?_); rintro e w6 ⟨s, rfl, hs, T, u⟩; obtain ⟨y, rfl⟩ := Int.eq_ofNat_of_zero_le hs.1; have hy : y < 50 := (by have := hs.2.1 (by omega); omega); have S6 := hide (S5.out.upd hbW hB1 u T); clear hs u T S5) | (go_at_call 11; (with_reducible refine (t_next B b 50 _ i50 S6.out.t).mono ?_); rintro e w7 ⟨s, rfl, hs, T, u⟩; obtain ⟨z, rfl⟩ := Int.eq_ofNat_of_zero_le hs.1; have hz : z < 50 := (by have := hs.2.1 (by omega); omega); have S7 := hide (S6.out.upd hbW hB1 u T); obtain ⟨P, P1, P2, iP⟩ := wr64 ((y : Int) * (z : Int)); obtain ⟨X, X1, X2, iX⟩ := wr64 (P * sl); clear hs u T S6))
       have S20 := hide (S7.out.alloc (.cells #[.int .i64 tt, .int .i64 X] 79))
       have ct0 := KC.out _ _ _ S7.out
       have ct := KC.out _ _ _ S20.out
       have hone := hide (one_atS w7 tt X itt iX)
       have hsz := S20.out.bw
       clear S7
       go_wp2_with (at_builtin; refine wl_appendS rfl (.tmp 81) (.tmp 88) rfl B1 _ ll [(tt, X)] rfl S20.out.s _ 1 1 rfl hone.out rfl (hle5.out X) hsz ?_; intro v21 w21 hO21 hG21 hA21; have S21 := hide (S20.out.grow hbW hB1 (HQ.out _ _ _ S20.out.s) hO21 hG21); clear hO21 hG21 hA21)
       go_roundw
       case rel => (repeat apply Exists.intro); exact ⟨⟨i + 1, vv, ll ++ [(tt, X)], by omega, by go_num, by go_num, Hvv, HL2.out X, S21⟩, rfl⟩
       case measure => simp [intOf]; omega
   · obtain rfl : i = n := by omega
     have d0 : decide ((i : Int) < (i : Int)) = false := decide_eq_false (by omega)
     go_wp2_with fail
     go_ret
     have hL := HL.out
     rw [List.take_of_length_le (by have := Hm.out; omega)] at hL
     obtain ⟨A, c, hv, h1, h2, h3⟩ := S5.out.s.at_
     have hO := S5.out.s
     subst hv
     have hll : ll.length = i := by rw [← Hm.out, ← hL, List.length_map]
     exact ⟨A, _, c, ll, rfl, rfl, by omega, h1, h2, by rw [hL]; exact Hinc.out, hO.less hB1, S5.out.t, S5.out.u⟩
end
section
open Go Go.RowKit Go.Sort
def nearV (a b e : Int) : Bool := decide (0 ≤ e ∧ ((a - b).natAbs : Int) ≤ e)
theorem r_nearS (a b e : Int) (W : World) (ha : I64 a) (hb : I64 b) (he : I64 e) (v : Bool) (hv : nearV a b e = v) :
   Calls Try.prog 21 #[.int .i64 a, .int .i64 b, .int .i64 e] W (RetSame (.bool v) W) := by
 unfold nearV at hv
 have K := hide (fun w => r_dist a b w ha hb)
 obtain ⟨d, hd⟩ : ∃ d, (a - b).natAbs = d := ⟨_, rfl⟩
 rw [hd] at K hv
 by_cases h0 : 0 ≤ e
 · have d0 : decide ((0 : Int) ≤ e) = true := decide_eq_true h0
   have ec : IntKind.u64.wrap e = e := by rw [wrap_u64']; unfold I64 at he; omega
   have d1 : decide ((d : Int) ≤ e) = v := by rw [← hv]; simp [h0]
   have Hv := hide d1
   clear hv ha hb hd
   go_enter Try.func21, Try.ntmps21
   go_wp2_with (go_at_call 44; (with_reducible refine (K.out _).mono ?_); rintro e w3 ⟨rfl, rfl⟩)
   go_ret
   exact ⟨rfl, rfl⟩
 · have d0 : decide ((0 : Int) ≤ e) = false := decide_eq_false h0
   have ev : v = false := by rw [← hv]; simp [h0]
   subst ev
   clear hv ha hb hd K
   go_enter Try.func21, Try.ntmps21
   go_wp2_with fail
   go_ret
   exact ⟨rfl, rfl⟩
end
section
open Go Go.RowKit Go.Sort
def wCe (z : Int) : Array Value := #[.bool (sg z), .int .u64 (l0 z : Int), .int .u64 (l1 z : Int), .int .u64 (l2 z : Int), .int .u64 (l3 z : Int)]
theorem wC_onee (z : Int) : (wCe z).all (·.oneCell') = true := by kernel_rfl
theorem wC_size (z : Int) : (wCe z).size = 5 := rfl
theorem pw_ofi {x : Int} (h : I64 x) (w : World) : Calls Try.prog 68 #[.int .i64 x] w (Ret (.agg (wCe x)) w) := c_ofi h.1 h.2 w
theorem rw_ofi {x : Int} (h : I64 x) (w : World) : Calls Try.prog 13 #[.int .i64 x] w (Ret (.agg (wCe x)) w) := d_ofi h.1 h.2 w
theorem pw_add {x y z : Int} (hx : F256 x) (hy : F256 y) (e : x + y = z) (hz : F256 z) (w : World) : Calls Try.prog 73 #[.agg (wCe x), .agg (wCe y)] w (Ret (.tuple #[.agg (wCe z), .bool true]) w) := c_add hx hy e hz w
theorem rw_add {x y z : Int} (hx : F256 x) (hy : F256 y) (e : x + y = z) (hz : F256 z) (w : World) : Calls Try.prog 12 #[.agg (wCe x), .agg (wCe y)] w (Ret (.tuple #[.agg (wCe z), .bool true]) w) := d_add hx hy e hz w
theorem pw_mul {x y z : Int} (hx : F256 x) (hy : F256 y) (e : x * y = z) (hz : F256 z) (w : World) : Calls Try.prog 80 #[.agg (wCe x), .agg (wCe y)] w (Ret (.tuple #[.agg (wCe z), .bool true]) w) := c_mul hx hy e hz w
theorem rw_mul {x y z : Int} (hx : F256 x) (hy : F256 y) (e : x * y = z) (hz : F256 z) (w : World) : Calls Try.prog 72 #[.agg (wCe x), .agg (wCe y)] w (Ret (.tuple #[.agg (wCe z), .bool true]) w) := d_mul hx hy e hz w
theorem pw_div {x y q r : Int} (hx : F256 x) (hy : F256 y) (y0 : y ≠ 0) (e1 : x / y = q) (e2 : x % y = r) (w : World) : Calls Try.prog 76 #[.agg (wCe x), .agg (wCe y)] w (Ret (.tuple #[.agg (wCe q), .agg (wCe r), .bool true]) w) := c_div hx hy y0 e1 e2 w
theorem rw_div {x y q r : Int} (hx : F256 x) (hy : F256 y) (y0 : y ≠ 0) (e1 : x / y = q) (e2 : x % y = r) (w : World) : Calls Try.prog 22 #[.agg (wCe x), .agg (wCe y)] w (Ret (.tuple #[.agg (wCe q), .agg (wCe r), .bool true]) w) := d_div hx hy y0 e1 e2 w
theorem pw_cmp {x y r : Int} (hx : F256 x) (hy : F256 y) (e : cmpI x y = r) (w : World) : Calls Try.prog 70 #[.agg (wCe x), .agg (wCe y)] w (Ret (.int .i64 r) w) := c_cmp hx hy e w
theorem rw_cmp {x y r : Int} (hx : F256 x) (hy : F256 y) (e : cmpI x y = r) (w : World) : Calls Try.prog 58 #[.agg (wCe x), .agg (wCe y)] w (Ret (.int .i64 r) w) := d_cmp hx hy e w
theorem rw_sign {x r : Int} (hx : F256 x) (e : x.sign = r) (w : World) : Calls Try.prog 45 #[.agg (wCe x)] w (Ret (.int .i64 r) w) := d_sign hx e w
theorem pw_valid {x : Int} (hx : F256 x) (w : World) : Calls Try.prog 54 #[.agg (wCe x)] w (Ret (.bool true) w) := c_valid hx w
theorem rw_valid {x : Int} (hx : F256 x) (w : World) : Calls Try.prog 47 #[.agg (wCe x)] w (Ret (.bool true) w) := d_valid hx w
theorem pw_i64 {x : Int} (hx : F256 x) (h : I64 x) (w : World) : Calls Try.prog 77 #[.agg (wCe x)] w (Ret (.tuple #[.int .i64 x, .bool true]) w) :=
 (p_int64 _ _ _ _ _ x w (isC_of hx).1).mono fun _ _ k => by rw [if_pos ⟨h.1, h.2⟩, decide_eq_true ⟨h.1, h.2⟩] at k; exact k
theorem rw_i64 {x : Int} (hx : F256 x) (h : I64 x) (w : World) : Calls Try.prog 23 #[.agg (wCe x)] w (Ret (.tuple #[.int .i64 x, .bool true]) w) := d_int64 hx h.1 h.2 w
theorem pw_bad {s : Bool} {a b c d : Nat} {z : Int} (h : IsW s a b c d z) (hb : s = true ∧ z = 0) (w : World) : Calls Try.prog 54 #[.agg #[.bool s, .int .u64 (a : Int), .int .u64 (b : Int), .int .u64 (c : Int), .int .u64 (d : Int)]] w (Ret (.bool false) w) :=
 (p_valid _ _ _ _ _ z w h).mono fun _ _ k => by rw [show (!s || decide (z ≠ 0)) = false by rw [hb.1, hb.2]; rfl] at k; exact k
theorem rw_bad {s : Bool} {a b c d : Nat} {z : Int} (h : IsW s a b c d z) (hb : s = true ∧ z = 0) (w : World) : Calls Try.prog 47 #[.agg #[.bool s, .int .u64 (a : Int), .int .u64 (b : Int), .int .u64 (c : Int), .int .u64 (d : Int)]] w (Ret (.bool false) w) :=
 (ref_valid _ _ _ _ _ z w h).mono fun _ _ k => by rw [show (!s || decide (z ≠ 0)) = false by rw [hb.1, hb.2]; rfl] at k; exact k
theorem p_near (a b e : Int) (W : World) (ha : I64 a) (hb : I64 b) (he : I64 e) (v : Bool) (hv : nearV a b e = v) :
   Calls Try.prog 71 #[.int .i64 a, .int .i64 b, .int .i64 e] W (Ret (.bool v) W) := by
 unfold nearV at hv
 have K := hide (fun w => p_dist a b w ha hb)
 obtain ⟨d, hd⟩ : ∃ d, (a - b).natAbs = d := ⟨_, rfl⟩
 rw [hd] at K hv
 by_cases h0 : 0 ≤ e
 · have d0 : decide ((0 : Int) ≤ e) = true := decide_eq_true h0
   have ec : IntKind.u64.wrap e = e := by rw [wrap_u64']; unfold I64 at he; omega
   have d1 : decide ((d : Int) ≤ e) = v := by rw [← hv]; simp [h0]
   have Hv := hide d1
   clear hv ha hb hd
   go_enter Try.func71, Try.ntmps71
   go_wp2_with (go_at_call 84; (with_reducible refine (K.out _).mono ?_); rintro e w3 ⟨rfl, rfl⟩)
   go_ret
   exact ⟨rfl, Ext.refl _⟩
 · have d0 : decide ((0 : Int) ≤ e) = false := decide_eq_false h0
   have ev : v = false := by rw [← hv]; simp [h0]
   subst ev
   clear hv ha hb hd K
   go_enter Try.func71, Try.ntmps71
   go_wp2_with fail
   go_ret
   exact ⟨rfl, Ext.refl _⟩
theorem r_near (a b e : Int) (W : World) (ha : I64 a) (hb : I64 b) (he : I64 e) (v : Bool) (hv : nearV a b e = v) :
   Calls Try.prog 21 #[.int .i64 a, .int .i64 b, .int .i64 e] W (Ret (.bool v) W) := (r_nearS a b e W ha hb he v hv).mono fun e w' h => ⟨h.1, h.2 ▸ Ext.refl _⟩
theorem pm_tol (e : Int) (W : World) (v : Bool) (hv : tolB e = v) : Calls Try.prog 26 #[.int .i64 e] W (Ret (.bool v) W) := by
 subst hv
 by_cases h0 : 0 ≤ e
 · by_cases h1 : e ≤ 4611686018427387904
   · have c0 : decide (0 ≤ e) = true := decide_eq_true h0
     have c1 : decide (e ≤ 4611686018427387904) = true := decide_eq_true h1
     unfold tolB
     rw [c0, c1]
     clear h0 h1
     go_enter Try.func26, Try.ntmps26
     go_wp2_with fail
     go_ret
     exact ⟨rfl, Ext.refl _⟩
   · have c0 : decide (0 ≤ e) = true := decide_eq_true h0
     have c1 : decide (e ≤ 4611686018427387904) = false := decide_eq_false h1
     unfold tolB
     rw [c0, c1]
     clear h0 h1
     go_enter Try.func26, Try.ntmps26
     go_wp2_with fail
     go_ret
     exact ⟨rfl, Ext.refl _⟩
 · have c0 : decide (0 ≤ e) = false := decide_eq_false h0
   unfold tolB
   rw [c0, Bool.false_and]
   clear h0
   go_enter Try.func26, Try.ntmps26
   go_wp2_with fail
   go_ret
   exact ⟨rfl, Ext.refl _⟩
structure MeX (X : Array Value) (t c lo hi : Int) (S : Array Value) : Prop where
 s : X.size = 9
 o : X.all (·.oneCell') = true
 x0 : X[0]? = some (.int .i64 t)
 x1 : X[1]? = some (.int .i64 c)
 x2 : X[2]? = some (.int .i64 lo)
 x3 : X[3]? = some (.int .i64 hi)
 x4 : X.extract 4 9 = S
theorem meX_of (t c lo hi z : Int) : MeX (meC t c lo hi z) t c lo hi (wCe z) := ⟨rfl, meC_one _ _ _ _ _, rfl, rfl, rfl, rfl, meC_sum _ _ _ _ _⟩
theorem meX_raw (t c lo hi : Int) (s : Bool) (a b d e : Nat) : MeX (meR t c lo hi s a b d e) t c lo hi #[.bool s, .int .u64 (a : Int), .int .u64 (b : Int), .int .u64 (d : Int), .int .u64 (e : Int)] := ⟨rfl, by kernel_rfl, rfl, rfl, rfl, rfl, by kernel_rfl⟩
theorem b_me5w (t c lo hi z : Int) : Try.prog.built 27 [(0, .int .i64 t), (1, .int .i64 c), (2, .int .i64 lo), (3, .int .i64 hi), (4, .agg (wCe z))] = some (meC t c lo hi z) := b_me5 t c lo hi z
theorem f64 {x : Int} (h : I64 x) : F256 x := by unfold F256 I64 at *; omega
theorem cmpI_lee {x y r : Int} (h : cmpI x y = r) : decide (r ≤ 0) = decide (x ≤ y) := by
 subst h; unfold cmpI
 (repeat' split) <;> simp_all <;> omega
theorem cmpI_lte {x y r : Int} (h : cmpI x y = r) : decide (r < 0) = decide (x < y) := by
 subst h; unfold cmpI
 (repeat' split) <;> simp_all <;> omega
theorem cmpI_gte {x y r : Int} (h : cmpI x y = r) : decide (0 < r) = decide (y < x) := by
 subst h; unfold cmpI
 (repeat' split) <;> simp_all <;> omega
theorem eqInW9 (s s' : Bool) (a b c e a' b' c' e' : Int) (w : World) :
   (Op.equalIn 9999 25 (.agg #[.bool s, .int .u64 a, .int .u64 b, .int .u64 c, .int .u64 e]) (.agg #[.bool s', .int .u64 a', .int .u64 b', .int .u64 c', .int .u64 e'])).run Try.prog w = .ok (same5 s s' a b c e a' b' c' e') w := by
 have hS : Try.prog.underlying 25 = some (.struct (Try.prog.fieldsOf 25)) := by kernel_rfl
 have hp : Try.prog.stoodInHeld 25 = false := by kernel_rfl
 have u4 := Try.underlying4
 have h4 := eqIn4 9996 23 Try.underlying23
 have z23 := Try.sizeOf23
 rw [show (9999 : Nat) = 9998 + 1 from rfl, run_equalIn_agg w 9998 25 _ _ hS hp]
 simp only [Program.fieldsOf, Try.underlying25]
 simp [Op.eqFields, Go.part, isAgg, run_underlying u4, run_equalIn_bool', u4, h4, z23, same5]
 by_cases h0 : s = s' <;> by_cases h1 : a = a' <;> by_cases h2 : b = b' <;> by_cases h3 : c = c' <;> by_cases h4 : e = e' <;> simp [h0, h1, h2, h3, h4]
theorem eqM9 (t c a b : Int) (s : Bool) (f g h i : Nat) (t' c' a' b' : Int) (s' : Bool) (f' g' h' i' : Nat) (w : World) : (binOp .eql 27 (.agg (meR t c a b s f g h i)) (.agg (meR t' c' a' b' s' f' g' h' i'))).run Try.prog w = .ok (.bool (t == t' && (c == c' && (a == a' && (b == b' && same5 s s' f g h i f' g' h' i'))))) w := by
 have hS : Try.prog.underlying 27 = some (.struct (Try.prog.fieldsOf 27)) := by kernel_rfl
 have hp : Try.prog.stoodInHeld 27 = false := by kernel_rfl
 have u := Try.underlying2
 have z := Try.sizeOf2
 have u2 := Try.underlying3
 have z2 := Try.sizeOf3
 have zW := Try.sizeOf25
 have h5 := eqInW9
 unfold meR
 rw [run_eql_struct, show (10000 : Nat) = 9999 + 1 from rfl, run_equalIn_agg w 9999 27 _ _ hS hp]
 simp only [Program.fieldsOf, Try.underlying27]
 have he : ∀ (x y : Int) (w : World), (Op.equalIn 9999 2 (.int .i64 x) (.int .i64 y)).run Try.prog w = .ok (x == y) w := fun x y w => run_equalIn_int w 9998 2 .i64 .i64 x y u
 have he2 : ∀ (x y : Int) (w : World), (Op.equalIn 9999 3 (.int .i64 x) (.int .i64 y)).run Try.prog w = .ok (x == y) w := fun x y w => run_equalIn_int w 9998 3 .i64 .i64 x y u2
 generalize hq : same5 s s' f g h i f' g' h' i' = q
 have h5' : ∀ w, (Op.equalIn 9999 25 (.agg #[.bool s, .int .u64 (f : Int), .int .u64 (g : Int), .int .u64 (h : Int), .int .u64 (i : Int)]) (.agg #[.bool s', .int .u64 (f' : Int), .int .u64 (g' : Int), .int .u64 (h' : Int), .int .u64 (i' : Int)])).run Try.prog w = .ok q w := fun w => by rw [h5, hq]
 simp [Op.eqFields, Go.part, isAgg, run_underlying u, run_underlying u2, u, u2, z, z2, he, he2, zW, h5']
 by_cases h0 : t = t' <;> by_cases h1 : c = c' <;> by_cases h2 : a = a' <;> by_cases h3 : b = b' <;> simp [h0, h1, h2, h3] <;> cases q <;> rfl
theorem eqMR (t c a b : Int) (s : Bool) (f g h i : Nat) (w : World) : (binOp .eql 27 (.agg (meR t c a b s f g h i)) (.agg (meR t c a b s f g h i))).run Try.prog w = .ok (.bool true) w := by rw [eqM9]; simp [same5]
theorem eqMC {t c a b z t' c' a' b' z' : Int} (hz : F256 z) (hz' : F256 z') (w : World) : (binOp .eql 27 (.agg (meC t c a b z)) (.agg (meC t' c' a' b' z'))).run Try.prog w = .ok (.bool (decide (t = t' ∧ c = c' ∧ a = a' ∧ b = b' ∧ z = z'))) w := by
 unfold meC
 rw [eqM9, same_isC (isC_of hz) (isC_of hz')]
 congr 2
 by_cases h0 : t = t' <;> by_cases h1 : c = c' <;> by_cases h2 : a = a' <;> by_cases h3 : b = b' <;> simp [h0, h1, h2, h3]
end
end Go.Proofs.Ytlfmeiejocpnfaa
