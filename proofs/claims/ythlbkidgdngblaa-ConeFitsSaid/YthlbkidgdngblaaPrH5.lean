/- Part 5 of what these claims stand on: contracts of the program's and the reference's functions, and plain facts. Conditions: each states its own. -/
import Derived.Test.YthlbkidgdngblaaPrH4
import Derived.Lib.QuietBelow
import Derived.BigQuiet
namespace Go.Proofs.Ythlbkidgdngblaa
set_option linter.unusedVariables false
set_option linter.unusedSimpArgs false
section
open Go Go.RowKit
def ndB (l : List Oper) (kd : List Tg) (nd : List Nat) : Bool := (List.range l.length).all fun i => (match tgOf kd i with | .ev m => nd.getD i 0 == m | _ => true) && (nd.getD i 0 == 0 || (List.range l.length).any fun k => tgOf kd k == .ev (nd.getD i 0 - 1) && anc l l.length i k)
def Stab (nd : List Nat) (R R' : Nat → Value) : Nat → List Value → List Value → Prop
 | i, x :: xs, y :: ys => ((∀ m, m < nd.getD i 0 → R m = R' m) → x = y) ∧ Stab nd R R' (i + 1) xs ys
 | _, [], [] => True
 | _, _, _ => False
theorem Stab.get {nd : List Nat} {R R' : Nat → Value} : ∀ {xs ys : List Value} {k : Nat}, Stab nd R R' k xs ys → ∀ i, (∀ m, m < nd.getD (k + i) 0 → R m = R' m) → xs.getD i undef = ys.getD i undef
 | [], [], _, _, _, _ => rfl
 | x :: xs, y :: ys, k, h, 0, hi => by simpa using h.1 hi
 | x :: xs, y :: ys, k, h, i + 1, hi => by
   have := Stab.get h.2 i (fun m hm => hi m (by rw [show k + (i + 1) = k + 1 + i by omega]; exact hm))
   simpa using this
 | [], _ :: _, _, h, _, _ => h.elim
 | _ :: _, [], _, h, _, _ => h.elim
section
variable {l : List Oper} {kd : List Tg} {V : (Nat → Value) → List Value}
variable {T : Nat → (Nat → Value) → World → Prop} {E : Nat → Prop} {zero : Nat → Obj} {full : (Nat → Value) → Nat → Obj} {tgt : Nat → Nat} {a0 : Act} {W : World} {S : List Nat} {s : Nat} {R : Nat → Value} {G : Nat → Nat} {w : World} {nd : List Nat}
theorem anc_dep (hc : ∀ s ∈ S, ∀ o, l[s]? = some o → ∀ k, dep o k = true → k ∈ S) {i k n : Nat} {o : Oper} (ho : l[i]? = some o) (hdep : ∀ k, dep o k = true → k ∈ S) (h : anc l n i k = true) : k ∈ S := by
 cases n with
 | zero => simp [anc] at h
 | succ n =>
   unfold anc at h
   rw [ho] at h
   simp only [Bool.or_eq_true, List.any_eq_true, Bool.and_eq_true] at h
   rcases h with h | ⟨m, _, hm, h⟩
   · exact hdep k h
   · exact anc_in hc n m k (hdep m hm) h
theorem nd_le (hck : ndB l kd nd = true) (hI : EInv T E l kd zero full tgt W S s R G w) {i : Nat} {o : Oper} (ho : l[i]? = some o) (hdep : ∀ k, dep o k = true → k ∈ S) : nd.getD i 0 ≤ s := by
 unfold ndB at hck
 rw [List.all_eq_true] at hck
 have h := hck i (List.mem_range.2 (List.getElem?_eq_some_iff.1 ho).1)
 simp only [Bool.and_eq_true, Bool.or_eq_true, List.any_eq_true, beq_iff_eq] at h
 rcases h.2 with h | ⟨k, hk, ht, ha⟩
 · omega
 · have hkS := anc_dep hI.cl ho hdep ha
   have := (hI.stage k (List.mem_range.1 hk) _ ht).1 hkS
   omega
theorem nd_in (hck : ndB l kd nd = true) (hI : EInv T E l kd zero full tgt W S s R G w) {i : Nat} (hi : i ∈ S) : nd.getD i 0 ≤ s := by
 have hil := hI.inn i hi
 exact nd_le hck hI (List.getElem?_eq_getElem hil) (hI.cl i hi _ (List.getElem?_eq_getElem hil))
theorem nd_ev (hck : ndB l kd nd = true) {i m : Nat} (hi : i < l.length) (ht : tgOf kd i = .ev m) : nd.getD i 0 = m := by
 unfold ndB at hck
 rw [List.all_eq_true] at hck
 have h := hck i (List.mem_range.2 hi)
 simp only [Bool.and_eq_true] at h
 have := h.1
 rw [ht] at this
 simpa using this
variable {P : Program} {Q : Exit → Act → World → Prop}
theorem stepE (hck : chkE l kd = true) (hnd : ndB l kd nd = true) (hdst : dstB l a0.tmps.size = true) (hE : ∀ k, E k → k < W.heap.size) (hEt : ∀ c, Tg.so c ∈ kd → ¬ E (tgt c)) (htg : ∀ c, Tg.so c ∈ kd → tgt c < W.heap.size) (htd : ∀ c c', Tg.so c ∈ kd → Tg.so c' ∈ kd → tgt c = tgt c' → c = c') (hV : ∀ R R', Stab nd R R' 0 (V R) (V R')) (hFu : ∀ R R' i, (∀ m, m < nd.getD i 0 → R m = R' m) → full R i = full R' i)
   (hTB : ∀ s R w w', T s R w → Below w.heap.size w w' → T s R w')
   (hops : AllOps (RuleE P T E l kd nd V zero full tgt W (fun R => frE l (uE kd V R (fun _ => 0)) a0 (List.range l.length))) 0 l)
   (hI : EInv T E l kd zero full tgt W S s R G w) {i : Nat} {o : Oper} (ho : l[i]? = some o) (hn : i ∉ S) (hdep : ∀ k, dep o k = true → k ∈ S)
   {K : Act → World → Prop} (hK : ∀ s' R' G' w', EInv T E l kd zero full tgt W (S ++ [i]) s' R' G' w' → K (frE l (uE kd V R' G') a0 (S ++ [i])) w') :
   if Region.wanted o (yielded l.toArray (frE l (uE kd V R G) a0 S).tmps) = true then Oper.wp P o (frE l (uE kd V R G) a0 S) w K Q else K ((frE l (uE kd V R G) a0 S).put o.dst undef) w := by
 have hil := (List.getElem?_eq_some_iff.1 ho).1
 obtain ⟨hg0, hg1, hs, _, hq, hev, hst, hso⟩ := specE hck ho
 have hrule := hops.get i o ho
 rw [Nat.zero_add] at hrule
 obtain ⟨hgd, hrule⟩ := hrule
 have hd : dstOf l i = o.dst := by unfold dstOf; rw [ho]; rfl
 have hcl : ∀ o, l[i]? = some o → ∀ k, dep o k = true → k ∈ S := by
   intro o' ho' k hk
   rw [ho] at ho'
   obtain rfl : o = o' := by simpa using ho'
   exact hdep k hk
 have hns := nd_le hnd hI ho hdep
 have hev' : ∀ x, calmE l kd o x = true → (frE l (uE kd V R G) a0 S).eval x = (frE l (uE kd V R (fun _ => 0)) a0 (List.range l.length)).eval x := fun x hx => evalE hck G _ a0 hI.nd hdep hx
 have hwant : Region.wanted o (yielded l.toArray (frE l (uE kd V R G) a0 S).tmps) = (tgOf kd i != .sk) := by
   unfold Region.wanted
   cases hg : o.guard with
   | none =>
     have := hg0 hg
     simp [this]
   | some p =>
     obtain ⟨k, b⟩ := p
     obtain ⟨hdk, hkl, ⟨d, hdd⟩, hkn⟩ := hg1 k b hg
     have e := frE_some (uE kd V R G) d k hdd S a0 hI.nd (hdep k hdk) (fun j _ hj => one_writerE hck j k d hj hdd)
     rw [if_pos (dst_in hdst hdd)] at e
     have hy : yielded l.toArray (frE l (uE kd V R G) a0 S).tmps k = yB (uE kd V R G k) := by
       unfold yielded
       have : (l.toArray[k]?).bind (·.dst) = some d := by rw [List.getElem?_toArray]; exact hdd
       rw [this]
       simp only [Option.bind_some, e]
       unfold yB
       cases uE kd V R G k <;> rfl
     show (yielded l.toArray (frE l (uE kd V R G) a0 S).tmps k == some b) = _
     rw [hy, uE_known G (fun _ => 0) hkn]
     exact hgd k b hg R s w hI.holds hns
 rw [hwant]
 cases ht : tgOf kd i with
 | sk =>
   rw [if_neg (by simp)]
   have := hK s R G w (inv_grow hE hEt htg hI hil hn (by rw [ht]; rfl) hcl (Below.growE (Below.refl _ _)) (stage_snoc hI (by simp [ht])) (fun _ _ => rfl) hI.holds)
   rw [frE_snoc, hd] at this
   have hv : uE kd V R G i = undef := by unfold uE; rw [ht]; rfl
   rw [hv] at this
   exact this
 | q =>
   rw [if_pos (by simp)]
   unfold Oper.wp
   rw [ht] at hrule
   have h1 := hrule R s w hI.holds hns hI.same (fun m c hsc ha => hI.olds m (anc_lt ha) c hsc fun hs => hn (anc_in hI.cl _ m i hs ha))
   rw [← execOp_congr o hs (fun x hx => hev' x (hq (Or.inl ht) x hx))] at h1
   have hv : uE kd V R G i = (V R).getD i undef := by unfold uE; rw [ht]; rfl
   have hend : ∀ w', Below w.heap.size w w' → K ((frE l (uE kd V R G) a0 S).put o.dst ((V R).getD i undef)) w' := by
     intro w' hB
     have := hK s R G w' (inv_grow hE hEt htg hI hil hn (by rw [ht]; rfl) hcl (Below.growE hB) (stage_snoc hI (by simp [ht])) (fun _ _ => rfl) (hTB _ _ _ _ hI.holds hB))
     rw [frE_snoc, hd, hv] at this
     exact this
   generalize (execOp (frE l (uE kd V R G) a0 S).eval o).run P w = r at h1 ⊢
   cases r with
   | ok n w' =>
     cases n <;> simp only [qUpon, Oper.upon] at h1 ⊢
     · obtain ⟨rfl, rfl⟩ := h1
       exact hend _ (Below.refl _ _)
     · obtain ⟨rfl, h2⟩ := h1
       refine h2.mono ?_
       rintro e w'' ⟨rfl, hB⟩
       exact hend w'' hB
   | halt x w' => simp only [qUpon] at h1
 | ev m =>
   rw [if_pos (by simp)]
   unfold Oper.wp
   rw [ht] at hrule
   have hms : s = m := by
     have h1 := nd_ev hnd hil ht
     have h2 : ¬ m < s := fun h => hn ((hI.stage i hil m ht).2 h)
     omega
   subst hms
   have h1 := hrule R w hI.holds hI.same
   rw [← execOp_congr o hs (fun x hx => hev' x (hq (Or.inr ⟨s, ht⟩) x hx))] at h1
   have hend : ∀ (r : Value) (w'' : World), T (s + 1) (updR R s r) w'' → GrowE E w w'' → K ((frE l (uE kd V R G) a0 S).put o.dst r) w'' := by
     intro r w'' hT hB
     have hstg : ∀ j, j < l.length → ∀ m', tgOf kd j = .ev m' → (j ∈ S ++ [i] ↔ m' < s + 1) := by
       intro j hj m' hm'
       constructor
       · intro h
         rcases List.mem_append.1 h with h | h
         · have := (hI.stage j hj m' hm').1 h; omega
         · simp at h; subst h
           rw [ht] at hm'
           obtain rfl : s = m' := by simpa using hm'
           omega
       · intro h
         by_cases e : m' = s
         · have := (hev s ht j hj m' hm').1 e
           simp [this]
         · exact List.mem_append.2 (Or.inl ((hI.stage j hj m' hm').2 (by omega)))
     have := hK (s + 1) (updR R s r) G w'' (inv_grow hE hEt htg hI hil hn (by rw [ht]; rfl) hcl hB hstg (fun k hk => hFu _ _ k (fun m hm => by have := nd_in hnd hI hk; unfold updR; rw [if_neg (by omega)])) hT)
     have hc : frE l (uE kd V (updR R s r) G) a0 S = frE l (uE kd V R G) a0 S := by
       refine frE_congr _ _ S a0 (fun k hk => ?_)
       have hkl := hI.inn k hk
       have hkn := nd_in hnd hI hk
       have hR : ∀ m, m < s → updR R s r m = R m := fun m hm => by unfold updR; rw [if_neg (by omega)]
       have hs' := (hV (updR R s r) R).get k (fun m hm => hR m (by rw [Nat.zero_add] at hm; omega))
       unfold uE
       rw [hs']
       cases htk : tgOf kd k with
       | ev m' => exact hR m' ((hI.stage k hkl m' htk).1 hk)
       | _ => rfl
     have hv : uE kd V (updR R s r) G i = r := by unfold uE; rw [ht]; simp [slE, updR]
     rw [frE_snoc, hd, hv, hc] at this
     exact this
   generalize (execOp (frE l (uE kd V R G) a0 S).eval o).run P w = r at h1 ⊢
   cases r with
   | ok n w' =>
     cases n <;> simp only [eUpon, Oper.upon] at h1 ⊢
     · exact hend _ _ h1.1 h1.2
     · obtain ⟨rfl, h2⟩ := h1
       refine h2.mono ?_
       rintro e w'' ⟨r, rfl, hT, hB⟩
       exact hend r w'' hT hB
   | halt x w' => simp only [eUpon] at h1
 | al =>
   rw [if_pos (by simp)]
   unfold Oper.wp
   rw [ht] at hrule
   rw [hrule]
   simp only [Oper.upon]
   have := hK s R _ _ (inv_alE hE hTB htg hI hil hn ht hcl)
   have hc : frE l (uE kd V R (fun k => if k = i then w.heap.size else G k)) a0 S = frE l (uE kd V R G) a0 S := by
     refine frE_congr _ _ S a0 (fun k hk => ?_)
     have e : k ≠ i := (fun e => hn (by rw [← e]; exact hk))
     unfold uE
     simp only [if_neg e]
   have hv : uE kd V R (fun k => if k = i then w.heap.size else G k) i = ptrTo w.heap.size := by unfold uE; rw [ht]; simp [slE]
   rw [frE_snoc, hd, hv, hc] at this
   exact this
 | st j =>
   rw [if_pos (by simp)]
   unfold Oper.wp
   obtain ⟨T', t, x, hop, hod, hdj, hdepj, hal, hcx, huniq⟩ := hst j ht
   simp only [ht, hop] at hrule
   have hjS := hdep j hdepj
   have hp : (frE l (uE kd V R G) a0 S).eval (.tmp t) = ptrTo (G j) := by
     have e1 := frE_some (uE kd V R G) t j hdj S a0 hI.nd hjS (fun k _ hk => one_writerE hck k j t hk hdj)
     rw [if_pos (dst_in hdst hdj)] at e1
     simp only [Act.eval, Array.getD_eq_getD_getElem?]
     rw [e1]
     unfold uE; rw [hal]; rfl
   have hz := hI.zeros j hjS hal (fun s' hs' e => hn (huniq s' (hI.inn s' hs') e ▸ hs'))
   obtain ⟨⟨w1, hr, hF⟩, hT1⟩ := hrule R s (frE l (uE kd V R G) a0 S).eval w (G j) hI.holds hns hp (hev' x hcx) (hI.made j hjS hal).1 hz
   rw [hr]
   simp only [Oper.upon]
   have := hK s R G w1 (inv_stE hE htg hck hI ho hn ht hjS hcl hF (hT1 w1 hF))
   have hv : uE kd V R G i = undef := by unfold uE; rw [ht]; rfl
   rw [frE_snoc, hd, hv] at this
   exact this
 | so c =>
   rw [if_pos (by simp)]
   unfold Oper.wp
   obtain ⟨T', p, x, hop, hod, hcp, hcx, _⟩ := hso c ht
   simp only [ht, hop] at hrule
   obtain ⟨⟨w1, hr, hF⟩, hT1⟩ := hrule R s (frE l (uE kd V R G) a0 S).eval w hI.holds hns (hev' p hcp) (hev' x hcx) (hI.olds i hil c ht hn)
   rw [hr]
   simp only [Oper.upon]
   have := hK s R G w1 (inv_soE htg htd hck hI ho hn ht hcl hF (hT1 w1 hF))
   have hv : uE kd V R G i = undef := by unfold uE; rw [ht]; rfl
   rw [frE_snoc, hd, hv] at this
   exact this
theorem inv_all (hI : EInv T E l kd zero full tgt W S s R G w) (hall : ∀ m, m < l.length → m ∈ S) : S.Perm (List.range l.length) ∧ EInv T E l kd zero full tgt W (List.range l.length) s R G w := by
 have hperm : S.Perm (List.range l.length) := (List.perm_ext_iff_of_nodup hI.nd List.nodup_range).2 (fun k => ⟨fun h => List.mem_range.2 (hI.inn k h), fun h => hall k (List.mem_range.1 h)⟩)
 refine ⟨hperm, List.nodup_range, fun i hi => List.mem_range.1 hi, hI.same, fun i hi => hI.made i (hperm.mem_iff.2 hi), fun i hi j hj => hI.apart i (hperm.mem_iff.2 hi) j (hperm.mem_iff.2 hj), fun i hi ht hs => hI.zeros i (hperm.mem_iff.2 hi) ht (fun s hs' => hs s (hperm.mem_iff.1 hs')), fun s hs i hi => ?_, fun s hs c hc hn => hI.olds s hs c hc (fun h => hn (hperm.mem_iff.1 h)), fun s hs => hI.olds' s (hperm.mem_iff.2 hs), fun s hs o ho k hk => hperm.mem_iff.1 (hI.cl s (hperm.mem_iff.2 hs) o ho k hk), fun i hi m hm => by rw [← hI.stage i hi m hm]; exact hperm.mem_iff.symm, hI.holds⟩
 obtain ⟨a, b, c⟩ := hI.fulls s (hperm.mem_iff.2 hs) i hi
 exact ⟨hperm.mem_iff.1 a, b, c⟩
theorem any_of_E (hck : chkE l kd = true) (hnd : ndB l kd nd = true) (hdst : dstB l a0.tmps.size = true) (hE : ∀ k, E k → k < W.heap.size) (hEt : ∀ c, Tg.so c ∈ kd → ¬ E (tgt c)) (htg : ∀ c, Tg.so c ∈ kd → tgt c < W.heap.size) (htd : ∀ c c', Tg.so c ∈ kd → Tg.so c' ∈ kd → tgt c = tgt c' → c = c') (hV : ∀ R R', Stab nd R R' 0 (V R) (V R')) (hFu : ∀ R R' i, (∀ m, m < nd.getD i 0 → R m = R' m) → full R i = full R' i)
   (hTB : ∀ s R w w', T s R w → Below w.heap.size w w' → T s R w')
   (hops : AllOps (RuleE P T E l kd nd V zero full tgt W (fun R => frE l (uE kd V R (fun _ => 0)) a0 (List.range l.length))) 0 l)
   (hend : ∀ s R G w, EInv T E l kd zero full tgt W (List.range l.length) s R G w → Q .normal (frE l (uE kd V R G) a0 (List.range l.length)) w) :
   ∀ (fuel : Nat) (S : List Nat) (s : Nat) (R : Nat → Value) (G : Nat → Nat) (w : World) (listed : Array Bool), listed.size = l.length → (∀ j, j < l.length → (listed.getD j true = decide (j ∈ S)) ∧ listed.getD j false = decide (j ∈ S)) → EInv T E l kd zero full tgt W S s R G w → S.length + fuel = l.length → wpAny P .any l.toArray Q fuel listed (frE l (uE kd V R G) a0 S) w := by
 have h1 := one_writerE hck
 intro fuel
 induction fuel with
 | zero =>
   intro S s R G w listed hsz hL hI hlen
   have hall : ∀ m, m < l.length → m ∈ S := by
     intro m hm
     refine Classical.byContradiction fun hn => ?_
     have h2 := nodup_sub (m :: S) (List.range l.length) (List.nodup_cons.2 ⟨hn, hI.nd⟩) (fun k hk => by
       rcases List.mem_cons.1 hk with h | h
       · subst h; exact List.mem_range.2 hm
       · exact List.mem_range.2 (hI.inn k h))
     simp at h2
     omega
   obtain ⟨hperm, hI'⟩ := inv_all hI hall
   refine ⟨?_, ?_⟩
   · cases hr : Region.ready .any l.toArray listed with
     | nil => rfl
     | cons i r =>
       obtain ⟨o, ho, hli, _⟩ := ready_spec (show i ∈ Region.ready .any l.toArray listed by rw [hr]; simp)
       have hi := (List.getElem?_eq_some_iff.1 ho).1
       rw [(hL i hi).1] at hli
       simp [hall i hi] at hli
   · rw [frE_perm _ a0 hperm h1]
     exact hend s R G w hI'
 | succ fuel ih =>
   intro S s R G w listed hsz hL hI hlen
   refine ⟨?_, ?_⟩
   · intro hr
     have : ∃ m, m < l.length ∧ m ∉ S := by
       apply Classical.byContradiction
       intro hno
       have := nodup_sub (List.range l.length) S List.nodup_range (fun m hm => Classical.byContradiction fun hn => hno ⟨m, List.mem_range.1 hm, hn⟩)
       simp at this
       omega
     obtain ⟨m, hm, hmS⟩ := this
     exact absurd hr (readyE_some hck hL hm hmS)
   · intro i hi
     obtain ⟨o, ho, hli, hdep⟩ := ready_spec hi
     have hil := (List.getElem?_eq_some_iff.1 ho).1
     have hn : i ∉ S := by
       intro h
       rw [(hL i hil).1] at hli
       simp [h] at hli
     have hdep' : ∀ k, dep o k = true → k ∈ S := by
       intro k hk
       have h2 := hdep k hk
       by_cases hkl : k < l.length
       · rw [(hL k hkl).2] at h2
         simpa using h2
       · rw [Array.getD_eq_getD_getElem?, Array.getElem?_eq_none (by omega)] at h2
         simp at h2
     have hstep := stepE (Q := Q) hck hnd hdst hE hEt htg htd hV hFu hTB hops hI ho hn hdep' (K := wpAny P .any l.toArray Q fuel (listed.setIfInBounds i true)) (by
       intro s' R' G' w' hI'
       refine ih (S ++ [i]) s' R' G' w' _ (by simpa using hsz) ?_ hI' (by simp; omega)
       intro j hj
       have hjs : j < listed.size := by omega
       by_cases e : j = i
       · subst e
         simp [Array.getD_eq_getD_getElem?, hjs]
       · have e' : i ≠ j := fun h => e h.symm
         have := hL j hj
         simp only [Array.getD_eq_getD_getElem?] at this ⊢
         rw [Array.getElem?_setIfInBounds_ne e']
         simpa [e] using this)
     show wpOp P l.toArray Q i _ _ _
     unfold wpOp
     rw [List.getElem?_toArray, ho]
     simp only
     by_cases hw : Region.wanted o (yielded l.toArray (frE l (uE kd V R G) a0 S).tmps) = true
     · rw [if_pos hw] at hstep
       rw [if_pos hw]
       exact Or.inl hstep
     · rw [if_neg hw] at hstep
       rw [if_neg hw]
       exact hstep
theorem list_of_E (hck : chkE l kd = true) (hnd : ndB l kd nd = true) (hdst : dstB l a0.tmps.size = true) (hE : ∀ k, E k → k < W.heap.size) (hEt : ∀ c, Tg.so c ∈ kd → ¬ E (tgt c)) (htg : ∀ c, Tg.so c ∈ kd → tgt c < W.heap.size) (htd : ∀ c c', Tg.so c ∈ kd → Tg.so c' ∈ kd → tgt c = tgt c' → c = c') (hV : ∀ R R', Stab nd R R' 0 (V R) (V R')) (hFu : ∀ R R' i, (∀ m, m < nd.getD i 0 → R m = R' m) → full R i = full R' i)
   (hTB : ∀ s R w w', T s R w → Below w.heap.size w w' → T s R w')
   (hops : AllOps (RuleE P T E l kd nd V zero full tgt W (fun R => frE l (uE kd V R (fun _ => 0)) a0 (List.range l.length))) 0 l)
   (hend : ∀ s R G w, EInv T E l kd zero full tgt W (List.range l.length) s R G w → Q .normal (frE l (uE kd V R G) a0 (List.range l.length)) w) :
   ∀ (l' : List Oper) (k : Nat) (s : Nat) (R : Nat → Value) (G : Nat → Nat) (w : World), k + l'.length = l.length → (∀ i, l'[i]? = l[k + i]?) → EInv T E l kd zero full tgt W (List.range k) s R G w → wpList P l.toArray Q l' (frE l (uE kd V R G) a0 (List.range k)) w
 | [], k, s, R, G, w, hk, _, hI => by
   simp at hk
   subst hk
   exact hend s R G w hI
 | o :: l', k, s, R, G, w, hk, hl, hI => by
   have ho : l[k]? = some o := by have := hl 0; simpa using this.symm
   have hkl := (List.getElem?_eq_some_iff.1 ho).1
   refine wpList_step fun K hK => ?_
   refine stepE (Q := Q) hck hnd hdst hE hEt htg htd hV hFu hTB hops hI ho (by simp) (fun m hm => ?_) (fun s' R' G' w' hI' => ?_)
   · unfold dep at hm
     rw [Array.any_eq_true'] at hm
     obtain ⟨e, he, hb⟩ := hm
     simp only [Bool.and_eq_true, beq_iff_eq] at hb
     have := (specE hck ho).2.2.2.1 e he hb.1
     rw [hb.2] at this
     exact List.mem_range.2 this
   · refine hK _ _ ?_
     rw [← List.range_succ] at hI' ⊢
     exact list_of_E hck hnd hdst hE hEt htg htd hV hFu hTB hops hend l' (k + 1) s' R' G' w' (by simp at hk; omega) (fun i => by have := hl (i + 1); simpa [Nat.add_assoc, Nat.add_comm 1 i] using this) hI'
theorem inv_start {R : Nat → Value} (hT : T 0 R w) (hw : w.os = W.os ∧ w.tape = W.tape ∧ w.output = W.output ∧ w.heap = W.heap) : EInv T E l kd zero full tgt W [] 0 R (fun _ => 0) w := by
 obtain ⟨h1, h2, h3, h4⟩ := hw
 exact ⟨List.nodup_nil, by simp, ⟨h1, h2, h3, by rw [h4]; exact Nat.le_refl _, fun _ _ _ _ => by rw [h4]⟩, by simp, by simp, by simp, by simp, fun s hs c hc _ => by rw [h4], by simp, by simp, fun i _ m _ => by simp, hT⟩
def putE : List Oper → List Tg → List Value → (Nat → Value) → (Nat → Nat) → Nat → Act → Act
 | o :: l, t :: kd, v :: V, R, G, i, a => putE l kd V R G (i + 1) (a.put o.dst (slE t v (G i) R))
 | _, _, _, _, _, _, a => a
theorem putE_eq (l : List Oper) (kd : List Tg) (V : (Nat → Value) → List Value) (R : Nat → Value) (G : Nat → Nat) : ∀ (l' : List Oper) (kd' : List Tg) (V' : List Value) (k : Nat) (a : Act), (∀ i, l'[i]? = l[k + i]?) → (∀ i, kd'[i]? = kd[k + i]?) → (∀ i, V'[i]? = (V R)[k + i]?) → kd'.length = l'.length → V'.length = l'.length → putE l' kd' V' R G k a = (List.range' k l'.length).foldl (fun a i => a.put (dstOf l i) (uE kd V R G i)) a
 | [], [], [], k, a, _, _, _, _, _ => rfl
 | o :: l', t :: kd', v :: V', k, a, h1, h2, h3, h4, h5 => by
   have e1 : l[k]? = some o := by have := h1 0; simpa using this.symm
   have e2 : kd[k]? = some t := by have := h2 0; simpa using this.symm
   have e3 : (V R)[k]? = some v := by have := h3 0; simpa using this.symm
   have ed : dstOf l k = o.dst := by unfold dstOf; rw [e1]; rfl
   have et : tgOf kd k = t := by unfold tgOf; rw [List.getD_eq_getElem?_getD, e2]; rfl
   have eV : (V R).getD k undef = v := by rw [List.getD_eq_getElem?_getD, e3]; rfl
   have ev : uE kd V R G k = slE t v (G k) R := by
     unfold uE; rw [et, eV]
   rw [putE, List.length_cons, List.range'_succ, List.foldl_cons, ed, ev]
   exact putE_eq l kd V R G l' kd' V' (k + 1) _ (fun i => by have := h1 (i + 1); simpa [Nat.add_assoc, Nat.add_comm 1 i] using this) (fun i => by have := h2 (i + 1); simpa [Nat.add_assoc, Nat.add_comm 1 i] using this) (fun i => by have := h3 (i + 1); simpa [Nat.add_assoc, Nat.add_comm 1 i] using this) (by simpa using h4) (by simpa using h5)
 | [], _ :: _, _, _, _, _, _, _, h, _ => by simp at h
 | [], [], _ :: _, _, _, _, _, _, _, h => by simp at h
 | _ :: _, [], _, _, _, _, _, _, h, _ => by simp at h
 | _ :: _, _ :: _, [], _, _, _, _, _, _, h => by simp at h
theorem frE_putE (a0 : Act) (h4 : kd.length = l.length) (R : Nat → Value) (h5 : (V R).length = l.length) : frE l (uE kd V R G) a0 (List.range l.length) = putE l kd (V R) R G 0 a0 := by
 rw [putE_eq l kd V R G l kd (V R) 0 a0 (by simp) (by simp) (by simp) h4 h5]
 unfold frE
 rw [List.range_eq_range']
theorem wp_ev {id : Nat} (kd : List Tg) (nd : List Nat) (V : (Nat → Value) → List Value) (zero : Nat → Obj) (full : (Nat → Value) → Nat → Obj) (tgt : Nat → Nat) (T : Nat → (Nat → Value) → World → Prop) (E : Nat → Prop) (hm : P.follows .mixedOrders = true) (hck : chkE l kd = true) (hnd : ndB l kd nd = true) (hdst : dstB l a0.tmps.size = true) (h4 : kd.length = l.length) (h5 : ∀ R, (V R).length = l.length)
   (hE : ∀ k, E k → k < W.heap.size) (hEt : ∀ c, Tg.so c ∈ kd → ¬ E (tgt c)) (htg : ∀ c, Tg.so c ∈ kd → tgt c < W.heap.size) (htd : ∀ c c', Tg.so c ∈ kd → Tg.so c' ∈ kd → tgt c = tgt c' → c = c') (hV : ∀ R R', Stab nd R R' 0 (V R) (V R')) (hFu : ∀ R R' i, (∀ m, m < nd.getD i 0 → R m = R' m) → full R i = full R' i)
   (hTB : ∀ s R w w', T s R w → Below w.heap.size w w' → T s R w') (hT0 : T 0 (fun _ => undef) W.drew)
   (hops : AllOps (RuleE P T E l kd nd V zero full tgt W (fun R => putE l kd (V R) R (fun _ => 0) 0 a0)) 0 l)
   (hend : ∀ s R G w, EInv T E l kd zero full tgt W (List.range l.length) s R G w → Q .normal (putE l kd (V R) R G 0 a0) w) :
   (Code.region id l.toArray true).wp P Q a0 W := by
 refine wp_region_any hm ?_
 have e : (fun R => frE l (uE kd V R (fun _ => 0)) a0 (List.range l.length)) = (fun R => putE l kd (V R) R (fun _ => 0) 0 a0) := funext fun R => frE_putE a0 h4 R (h5 R)
 rw [← e] at hops
 have h := any_of_E (Q := Q) hck hnd hdst hE hEt htg htd hV hFu hTB hops (fun s R G w hI => by rw [frE_putE a0 h4 R (h5 R)]; exact hend s R G w hI) l.length [] 0 (fun _ => undef) (fun _ => 0) { W with drawn := W.drawn + 1 } (Array.replicate l.length false) (by simp) (fun j hj => by simp [Array.getD_eq_getD_getElem?, hj]) (inv_start hT0 ⟨rfl, rfl, rfl, rfl⟩) (by simp)
 simpa [frE] using h
theorem wp_evs {id : Nat} (kd : List Tg) (nd : List Nat) (V : (Nat → Value) → List Value) (zero : Nat → Obj) (full : (Nat → Value) → Nat → Obj) (tgt : Nat → Nat) (T : Nat → (Nat → Value) → World → Prop) (E : Nat → Prop) (hck : chkE l kd = true) (hnd : ndB l kd nd = true) (hdst : dstB l a0.tmps.size = true) (h4 : kd.length = l.length) (h5 : ∀ R, (V R).length = l.length)
   (hE : ∀ k, E k → k < W.heap.size) (hEt : ∀ c, Tg.so c ∈ kd → ¬ E (tgt c)) (htg : ∀ c, Tg.so c ∈ kd → tgt c < W.heap.size) (htd : ∀ c c', Tg.so c ∈ kd → Tg.so c' ∈ kd → tgt c = tgt c' → c = c') (hV : ∀ R R', Stab nd R R' 0 (V R) (V R')) (hFu : ∀ R R' i, (∀ m, m < nd.getD i 0 → R m = R' m) → full R i = full R' i)
   (hTB : ∀ s R w w', T s R w → Below w.heap.size w w' → T s R w') (hT0 : T 0 (fun _ => undef) W)
   (hops : AllOps (RuleE P T E l kd nd V zero full tgt W (fun R => putE l kd (V R) R (fun _ => 0) 0 a0)) 0 l)
   (hend : ∀ s R G w, EInv T E l kd zero full tgt W (List.range l.length) s R G w → Q .normal (putE l kd (V R) R G 0 a0) w) :
   (Code.region id l.toArray false).wp P Q a0 W := by
 have e : (fun R => frE l (uE kd V R (fun _ => 0)) a0 (List.range l.length)) = (fun R => putE l kd (V R) R (fun _ => 0) 0 a0) := funext fun R => frE_putE a0 h4 R (h5 R)
 rw [← e] at hops
 refine wp_region_lit ?_
 have h := list_of_E (Q := Q) hck hnd hdst hE hEt htg htd hV hFu hTB hops (fun s R G w hI => by rw [frE_putE a0 h4 R (h5 R)]; exact hend s R G w hI) l 0 0 (fun _ => undef) (fun _ => 0) W (by simp) (by simp) (inv_start hT0 ⟨rfl, rfl, rfl, rfl⟩)
 simpa [frE] using h
end
end
section
open Go Go.RowKit
section
variable {P : Program} {C : World → Prop} {l : List Oper} {kd : List Tag} {V : List Value} {zero full : Nat → Obj} {tgt : Nat → Nat} {W : World} {A : Act} {i : Nat} {o : Oper}
theorem op_q (v : Value) (h : tagOf kd i = .q) (hv : V.getD i undef = v) (hq : ∀ w, C w → qUpon P w v ((execOp A.eval o).run P w)) : OpRule P C l kd V zero full tgt W A i o := by
 unfold OpRule; rw [h]; simp only [hv]; exact fun w hw => hq w hw.1
theorem op_al (z : Obj) (h : tagOf kd i = .al) (hz : zero i = z) (hr : ∀ (ρ : Operand → Value) (w : World), (execOp ρ o).run P w = .ok (.value (ptrTo w.heap.size)) (w.alloc z)) : OpRule P C l kd V zero full tgt W A i o := by
 unfold OpRule; rw [h]; simp only [hz]; exact hr
theorem op_st {j : Nat} {T : TypeId} {p x : Operand} (f z : Obj) (v : Value) (h : tagOf kd i = .st j) (hop : o.op = .store T p x) (hf : full i = f) (hz : zero j = z) (hv : A.eval x = v) (hs : ∀ (ρ : Operand → Value) (w : World) (g : Nat), ρ p = ptrTo g → ρ x = v → w.heap[g]? = some z → Stores P ρ o w g f) : OpRule P C l kd V zero full tgt W A i o := by
 unfold OpRule; simp only [h, hop, hf, hz, hv]; exact hs
theorem op_so {c : Nat} {T : TypeId} {p x : Operand} (g : Nat) (f : Obj) (v : Value) (h : tagOf kd i = .so c) (hop : o.op = .store T p x) (hf : full i = f) (hg : tgt c = g) (hp : A.eval p = ptrTo g) (hv : A.eval x = v) (hs : ∀ (ρ : Operand → Value) (w : World), ρ p = ptrTo g → ρ x = v → w.heap[g]? = W.heap[g]? → Stores P ρ o w g f) : OpRule P C l kd V zero full tgt W A i o := by
 unfold OpRule; simp only [h, hop, hf, hg, hp, hv]; exact ⟨trivial, hs⟩
end
theorem Same.ext' {kd : List Tag} {tgt : Nat → Nat} {W0 W w : World} (h : Same kd tgt W w) (k : Ext W0 W) (hc : ∀ c, Tag.so c ∈ kd → W0.heap.size ≤ tgt c) : Ext W0 w := h.ext k hc
theorem far_set {w : World} {g k : Nat} (hk : k ≠ g) (j : Nat) (u : Value) : (w.setCell ⟨g, j, none⟩ u).heap[k]? = w.heap[k]? := heap_setCell_other _ _ _ _ (by simpa using hk)
theorem os_set (w : World) (a : Addr) (v : Value) : (w.setCell a v).os = w.os := rfl
theorem tape_set (w : World) (a : Addr) (v : Value) : (w.setCell a v).tape = w.tape := rfl
theorem output_set (w : World) (a : Addr) (v : Value) : (w.setCell a v).output = w.output := rfl
theorem run_storeOp {ρ : Operand → Value} {o : Oper} {T : TypeId} {p x : Operand} {w w1 : World} (h : o.op = .store T p x) (hr : (Instr.storeAt T (ρ p) (ρ x)).run Try.prog w = .ok () w1) : (execOp ρ o).run Try.prog w = .ok .skip w1 := by
 unfold execOp; rw [h]
 show Sem.run Try.prog (do Instr.storeAt T (ρ p) (ρ x); pure Next.skip) w = _
 rw [Sem.run_bind, hr]
 rfl
theorem store_row {ρ : Operand → Value} {o : Oper} {T : TypeId} {p x : Operand} {w : World} {g : Nat} {cs ds : Array Value} (hop : o.op = .store T p x) (hp : ρ p = ptrTo g) (hx : ρ x = .agg ds) (hz : w.heap[g]? = some (.cells cs T (0, 0))) (hi : (Try.prog.info? T).map (·.size) = some cs.size) (hs : ds.size = cs.size) (h1 : ds.all (·.oneCell') = true) :
   Stores Try.prog ρ o w g (.cells ds T (0, 0)) := by
 refine ⟨w.setRow g ds, ?_, Blk.setRow (show Blk w g T cs from hz) ds, fun k hk => setRow_other w g k ds (by omega), by simp [World.setRow], rfl, rfl, rfl⟩
 refine run_storeOp hop ?_
 rw [hp, hx]
 unfold Instr.storeAt ptrTo
 simp only [Instr.sureAddr, Sem.run_bind, Sem.run_pure, Result.andThen_ok]
 exact run_storeVar_row w g _ _ _ _ hz (by rw [hi, hs]) (by rw [hs]) h1
end
section
open Go Go.RowKit
section
variable {P : Program} {l : List Oper} {kd : List Tg} {V : (Nat → Value) → List Value} {T : Nat → (Nat → Value) → World → Prop} {E : Nat → Prop} {zero : Nat → Obj} {full : (Nat → Value) → Nat → Obj} {tgt : Nat → Nat} {W : World} {A : (Nat → Value) → Act} {nd : List Nat} {i : Nat} {o : Oper}
abbrev GdE (T : Nat → (Nat → Value) → World → Prop) (kd : List Tg) (nd : List Nat) (V : (Nat → Value) → List Value) (i : Nat) (o : Oper) : Prop := ∀ k b, o.guard = some (k, b) → ∀ R s w, T s R w → nd.getD i 0 ≤ s → (yB (uE kd V R (fun _ => 0) k) == some b) = (tgOf kd i != .sk)
theorem gd_none (h : o.guard = none) : GdE T kd nd V i o := fun k b e => by rw [h] at e; cases e
theorem gd_some {k : Nat} {b : Bool} (h : o.guard = some (k, b)) (hv : ∀ R, (yB (uE kd V R (fun _ => 0) k) == some b) = (tgOf kd i != .sk)) : GdE T kd nd V i o := fun k' b' e R _ _ _ _ => by
 rw [h] at e
 cases e
 exact hv R
theorem er_q (v : (Nat → Value) → Value) (h : tgOf kd i = .q) (hv : ∀ R, (V R).getD i undef = v R) (hg : GdE T kd nd V i o) (hq : ∀ R s w, T s R w → nd.getD i 0 ≤ s → SameE kd tgt E W w → (∀ m c, tgOf kd m = .so c → anc l l.length m i = true → w.heap[tgt c]? = W.heap[tgt c]?) → qUpon P w (v R) ((execOp (A R).eval o).run P w)) : RuleE P T E l kd nd V zero full tgt W A i o := by
 refine ⟨hg, ?_⟩
 rw [h]
 intro R s w a b c d
 rw [hv]
 exact hq R s w a b c d
theorem er_sk (h : tgOf kd i = .sk) (hg : GdE T kd nd V i o) : RuleE P T E l kd nd V zero full tgt W A i o := by
 refine ⟨hg, ?_⟩
 rw [h]
 trivial
theorem er_al (z : Obj) (h : tgOf kd i = .al) (hz : zero i = z) (hg : GdE T kd nd V i o) (hr : ∀ (ρ : Operand → Value) (w : World), (execOp ρ o).run P w = .ok (.value (ptrTo w.heap.size)) (w.alloc z)) : RuleE P T E l kd nd V zero full tgt W A i o := by
 refine ⟨hg, ?_⟩
 rw [h]
 intro ρ w
 rw [hz]
 exact hr ρ w
theorem er_st {j : Nat} {Ty : TypeId} {p x : Operand} (f : (Nat → Value) → Obj) (z : Obj) (v : (Nat → Value) → Value) (h : tgOf kd i = .st j) (hop : o.op = .store Ty p x) (hf : ∀ R, full R i = f R) (hz : zero j = z) (hg : GdE T kd nd V i o) (hv : ∀ R, (A R).eval x = v R)
   (hs : ∀ R s (ρ : Operand → Value) (w : World) (g : Nat), T s R w → nd.getD i 0 ≤ s → ρ p = ptrTo g → ρ x = v R → W.heap.size ≤ g → w.heap[g]? = some z → Stores P ρ o w g (f R) ∧ ∀ w1, Filled w w1 g (f R) → T s R w1) : RuleE P T E l kd nd V zero full tgt W A i o := by
 refine ⟨hg, ?_⟩
 rw [h]
 simp only [hop, hf, hz]
 intro R s ρ w g a b c d
 rw [hv] at d
 exact hs R s ρ w g a b c d
theorem er_so {c : Nat} {Ty : TypeId} {p x : Operand} (g : Nat) (f : (Nat → Value) → Obj) (u v : (Nat → Value) → Value) (h : tgOf kd i = .so c) (hop : o.op = .store Ty p x) (hf : ∀ R, full R i = f R) (htg : tgt c = g) (hg : GdE T kd nd V i o) (hp : ∀ R, (A R).eval p = u R) (hv : ∀ R, (A R).eval x = v R)
   (hs : ∀ R s (ρ : Operand → Value) (w : World), T s R w → nd.getD i 0 ≤ s → ρ p = u R → ρ x = v R → w.heap[g]? = W.heap[g]? → Stores P ρ o w g (f R) ∧ ∀ w1, Filled w w1 g (f R) → T s R w1) : RuleE P T E l kd nd V zero full tgt W A i o := by
 refine ⟨hg, ?_⟩
 rw [h]
 simp only [hop, hf, htg]
 intro R s ρ w a b d e
 rw [hv] at e
 rw [hp] at d
 exact hs R s ρ w a b d e
theorem er_ev {m : Nat} (h : tgOf kd i = .ev m) (hg : GdE T kd nd V i o) (hq : ∀ R w, T m R w → SameE kd tgt E W w → eUpon P T E m R w ((execOp (A R).eval o).run P w)) : RuleE P T E l kd nd V zero full tgt W A i o := by
 refine ⟨hg, ?_⟩
 rw [h]
 exact hq
theorem q_load {a : Act} {w : World} {ty : TypeId} {x : Operand} {u v : Value} (ho : o.op = .load ty x) (hx : a.eval x = u) (hr : (Instr.loadAt ty u).run P w = .ok v w) : qUpon P w v ((execOp a.eval o).run P w) := by
 unfold execOp
 simp only [ho, hx, Sem.run_bind, hr, Result.andThen_ok, Sem.run_pure]
 exact ⟨rfl, rfl⟩
theorem q_bin {a : Act} {w : World} {b : BinOp} {ty ty' : TypeId} {x y : Operand} {u v r : Value} (ho : o.op = .binOp b ty x y ty') (hx : a.eval x = u) (hy : a.eval y = v) (hge : (eqGuard b ty x y u v).run P w = .ok () w) (hr : (binOp b ty u v).run P w = .ok r w) : qUpon P w r ((execOp a.eval o).run P w) := by
 unfold execOp
 simp only [ho, hx, hy, Sem.run_bind, hge, hr, Result.andThen_ok, Sem.run_pure]
 exact ⟨rfl, rfl⟩
theorem Blk.sameE {w : World} {g : Nat} {t : TypeId} {X : Array Value} (h : Blk W g t X) (k : SameE kd tgt E W w) (he : ¬ E g) (hc : ∀ c, Tg.so c ∈ kd → tgt c ≠ g) : Blk w g t X :=
 (k.2.2.2.2 g h.lt he hc).trans h
end
theorem TapeOk.keep {B b : Nat} {w w' : World} (h : TapeOk B w b) (hs : w.heap.size ≤ w'.heap.size) (hk : ∀ k, k = b ∨ k < B → k < w.heap.size → w'.heap[k]? = w.heap[k]?) : TapeOk B w' b := by
 obtain ⟨h1, h2, a, len, cap, at_, c0, c1, f1, h3, h4, hx⟩ := h
 have hc : ∀ k, k = b ∨ k < B → k < w.heap.size → ∀ o, w'.cell? ⟨k, o, none⟩ = w.cell? ⟨k, o, none⟩ := fun k h1 h2 o => by unfold World.cell?; rw [hk k h1 h2]
 have hf : w'.frozen? ⟨b, 1, none⟩ = w.frozen? ⟨b, 1, none⟩ := by unfold World.frozen?; rw [hk b (Or.inl rfl) h2]
 refine ⟨h1, by omega, a, len, cap, at_, (hc b (Or.inl rfl) h2 0).trans c0, (hc b (Or.inl rfl) h2 1).trans c1, hf.trans f1, h3, h4, ?_⟩
 rcases hx with hx | ⟨xb, xo, e, hb, hl, hcc⟩
 · exact Or.inl hx
 · refine Or.inr ⟨xb, xo, e, hb, hl, fun i hi => ?_⟩
   obtain ⟨v, h5, h6⟩ := hcc i hi
   exact ⟨v, h5, (hc xb (Or.inr hb) (by omega) _).trans h6⟩
def TE (B b : Nat) (W0 : World) (X : Nat → (Nat → Value) → Prop) (s : Nat) (R : Nat → Value) (w : World) : Prop := TapeOk B w b ∧ Upd b W0 w ∧ X s R
def XE (W0 : World) (_ : Nat) (_ : Nat → Value) (w : World) : Prop := Ext W0 w
theorem ext_filled {W0 w w1 : World} {g : Nat} {f : Obj} (h : Ext W0 w) (hF : Filled w w1 g f) (hg : W0.heap.size ≤ g) : Ext W0 w1 :=
 ⟨hF.2.2.2.1.trans h.os, hF.2.2.2.2.1.trans h.tape, hF.2.2.2.2.2.trans h.output, by rw [hF.2.2.1]; exact h.size, fun k hk => (hF.2.1 k (by omega)).trans (h.block k hk)⟩
theorem upd_filled {b : Nat} {W0 w w1 : World} {g : Nat} {f : Obj} (h : Upd b W0 w) (hF : Filled w w1 g f) (hg : W0.heap.size ≤ g) : Upd b W0 w1 :=
 ⟨hF.2.2.2.1.trans h.1, hF.2.2.2.2.1.trans h.2.1, hF.2.2.2.2.2.trans h.2.2.1, by rw [hF.2.2.1]; exact h.2.2.2.1, fun k hk hb => (hF.2.1 k (by omega)).trans (h.2.2.2.2 k hk hb)⟩
theorem xe_below {W0 : World} : ∀ s R w w', XE W0 s R w → Below w.heap.size w w' → XE W0 s R w' := fun _ _ _ _ h k => Ext.trans h k
theorem te_below {B b : Nat} {W0 : World} {X : Nat → (Nat → Value) → Prop} : ∀ s R w w', TE B b W0 X s R w → Below w.heap.size w w' → TE B b W0 X s R w' := fun _ _ _ _ h k => ⟨h.1.ext k, h.2.1.more k, h.2.2⟩
theorem te_filled {B b : Nat} {W0 : World} {X : Nat → (Nat → Value) → Prop} {s : Nat} {R : Nat → Value} {w w1 : World} {g : Nat} {f : Obj} (h : TE B b W0 X s R w) (hF : Filled w w1 g f) (hg : W0.heap.size ≤ g) (hb : g ≠ b) (hB : B ≤ g) : TE B b W0 X s R w1 :=
 ⟨h.1.keep (by rw [hF.2.2.1]; exact Nat.le_refl _) (fun k hk _ => hF.2.1 k (fun e => by subst e; rcases hk with e | e; exact hb e; omega)), upd_filled h.2.1 hF hg, h.2.2⟩
theorem te_ev {B b : Nat} {W0 : World} {X : Nat → (Nat → Value) → Prop} {m : Nat} {R : Nat → Value} {w w' : World} {r : Value} (h : TE B b W0 X m R w) (hT : TapeOk B w' b) (hU : Upd b w w') (hX : X (m + 1) (updR R m r)) : TE B b W0 X (m + 1) (updR R m r) w' ∧ GrowE (fun k => k = b) w w' :=
 ⟨⟨hT, h.2.1.trans hU, hX⟩, hU.1, hU.2.1, hU.2.2.1, hU.2.2.2.1, fun k hk he => hU.2.2.2.2 k hk he⟩
theorem store_at {ρ : Operand → Value} {o : Oper} {Ty T0 : TypeId} {p x : Operand} {w : World} {g off : Nat} {cs ds : Array Value} {v : Value} (hop : o.op = .store Ty p x) (hp : ρ p = .pointer (some ⟨g, off, none⟩)) (hx : ρ x = v) (hz : w.heap[g]? = some (.cells cs T0 (0, 0))) (hd : cs.setIfInBounds off v = ds) (hr : (Instr.storeAt Ty (.pointer (some ⟨g, off, none⟩)) v).run Try.prog w = .ok () (w.setCell ⟨g, off, none⟩ v)) :
   Stores Try.prog ρ o w g (.cells ds T0 (0, 0)) := by
 have hB : Blk w g T0 cs := hz
 refine ⟨w.setCell ⟨g, off, none⟩ v, run_storeOp hop (by rw [hp, hx]; exact hr), ?_, fun k hk => far_set hk _ _, by simp, rfl, rfl, rfl⟩
 have := hB.set_ off v
 rw [hd] at this
 exact this
theorem store_rowN {ρ : Operand → Value} {o : Oper} {T : TypeId} {p x : Operand} {w : World} {g n : Nat} {cs ds : Array Value} (hop : o.op = .store T p x) (hp : ρ p = ptrTo g) (hx : ρ x = .agg ds) (hz : w.heap[g]? = some (.cells cs T (0, 0))) (hi : (Try.prog.info? T).map (·.size) = some n) (hc : cs.size = n) (hs : ds.size = n) (h1 : ds.all (·.oneCell') = true) :
   Stores Try.prog ρ o w g (.cells ds T (0, 0)) := store_row hop hp hx hz (by rw [hc]; exact hi) (by rw [hs, hc]) h1
def XA (l : List (Value → Prop)) (s : Nat) (R : Nat → Value) : Prop := ∀ m p, l[m]? = some p → m < s → p (R m)
theorem XA.zero {l : List (Value → Prop)} {R : Nat → Value} : XA l 0 R := fun _ _ _ h => absurd h (by omega)
theorem XA.step {l : List (Value → Prop)} {m : Nat} {R : Nat → Value} {p : Value → Prop} {r : Value} (h : XA l m R) (hp : l[m]? = some p) (hr : p r) : XA l (m + 1) (updR R m r) := fun k q hq hk => by
 unfold updR
 by_cases e : k = m
 · subst e
   rw [hp] at hq
   cases hq
   rw [if_pos rfl]; exact hr
 · rw [if_neg e]; exact h k q hq (by omega)
theorem XA.get {l : List (Value → Prop)} {s : Nat} {R : Nat → Value} {p : Value → Prop} (h : XA l s R) (m : Nat) (hp : l[m]? = some p) (hs : m < s) : p (R m) := h m p hp hs
def rowV : Value → Array Value | .agg X => X | v => #[v]
end
section
open Go Go.RowKit Go.Sort
theorem eqInW8 (s s' : Bool) (a b c e a' b' c' e' : Int) (w : World) :
   (Op.equalIn 9998 25 (.agg #[.bool s, .int .u64 a, .int .u64 b, .int .u64 c, .int .u64 e]) (.agg #[.bool s', .int .u64 a', .int .u64 b', .int .u64 c', .int .u64 e'])).run Try.prog w = .ok (same5 s s' a b c e a' b' c' e') w := by
 have hS : Try.prog.underlying 25 = some (.struct (Try.prog.fieldsOf 25)) := by kernel_rfl
 have hp : Try.prog.stoodInHeld 25 = false := by kernel_rfl
 have u4 := Try.underlying4
 have h4 := eqIn4 9995 23 Try.underlying23
 have z23 := Try.sizeOf23
 rw [show (9998 : Nat) = 9997 + 1 from rfl, run_equalIn_agg w 9997 25 _ _ hS hp]
 simp only [Program.fieldsOf, Try.underlying25]
 simp [Op.eqFields, part, isAgg, run_underlying u4, run_equalIn_bool', u4, h4, z23, same5]
 by_cases h0 : s = s' <;> by_cases h1 : a = a' <;> by_cases h2 : b = b' <;> by_cases h3 : c = c' <;> by_cases h4 : e = e' <;> simp [h0, h1, h2, h3, h4]
theorem eqInR9 (s s' : Bool) (a b c e a' b' c' e' : Int) (t t' : Bool) (f g h i f' g' h' i' : Int) (w : World) :
   (Op.equalIn 9999 40 (.agg #[.bool s, .int .u64 a, .int .u64 b, .int .u64 c, .int .u64 e, .bool t, .int .u64 f, .int .u64 g, .int .u64 h, .int .u64 i]) (.agg #[.bool s', .int .u64 a', .int .u64 b', .int .u64 c', .int .u64 e', .bool t', .int .u64 f', .int .u64 g', .int .u64 h', .int .u64 i'])).run Try.prog w = .ok (same5 s s' a b c e a' b' c' e' && same5 t t' f g h i f' g' h' i') w := by
 have hS : Try.prog.underlying 40 = some (.struct (Try.prog.fieldsOf 40)) := by kernel_rfl
 have hp : Try.prog.stoodInHeld 40 = false := by kernel_rfl
 have z25 := Try.sizeOf25
 have h5 := eqInW8
 rw [show (9999 : Nat) = 9998 + 1 from rfl, run_equalIn_agg w 9998 40 _ _ hS hp]
 simp only [Program.fieldsOf, Try.underlying40]
 simp [Op.eqFields, part, isAgg, h5, z25]
 generalize same5 s s' a b c e a' b' c' e' = p
 generalize same5 t t' f g h i f' g' h' i' = q
 cases p <;> cases q <;> rfl
def RC (S : Array Value) : Prop := ∃ (s : Bool) (a b c d : Int) (t : Bool) (e f g h : Int), S = #[.bool s, .int .u64 a, .int .u64 b, .int .u64 c, .int .u64 d, .bool t, .int .u64 e, .int .u64 f, .int .u64 g, .int .u64 h]
theorem RC.size {S : Array Value} (h : RC S) : S.size = 10 := by obtain ⟨s, a, b, c, d, t, e, f, g, i, rfl⟩ := h; rfl
theorem RC.one {S : Array Value} (h : RC S) : S.all (·.oneCell') = true := by obtain ⟨s, a, b, c, d, t, e, f, g, i, rfl⟩ := h; kernel_rfl
theorem RC.zero : RC zR := ⟨false, 0, 0, 0, 0, false, 0, 0, 0, 0, rfl⟩
theorem eq_agg (X : Array Value) (T : TypeId) (h : Try.prog.eqGuardType Try.prog.depth T = false) (Y : Array Value) (b : BinOp) (x y : Operand) (w : World) : (eqGuard b T x y (.agg X) (.agg Y)).run Try.prog w = .ok () w := by
 have hp : ∀ w, Sem.run Try.prog (Sem.program Sem.pure) w = .ok Try.prog w := fun _ => rfl
 unfold eqGuard
 cases b <;> simp [program, h, hp, Sem.run_bind, Result.andThen]
theorem eq_cone {L H : Array Value} (o : Bool) (hL : RC L) (hH : RC H) (w : World) : (binOp .eql 42 (.agg (coneC o L H)) (.agg (coneC o L H))).run Try.prog w = .ok (.bool true) w := by
 obtain ⟨s, a, b, c, e, t, f, g, h, i, rfl⟩ := hL
 obtain ⟨s', a', b', c', e', t', f', g', h', i', rfl⟩ := hH
 have hS : Try.prog.underlying 42 = some (.struct (Try.prog.fieldsOf 42)) := by kernel_rfl
 have hp : Try.prog.stoodInHeld 42 = false := by kernel_rfl
 have u4 := Try.underlying4
 have z25 := Try.sizeOf40
 have h5 := eqInR9
 rw [run_eql_struct, show (10000 : Nat) = 9999 + 1 from rfl, run_equalIn_agg w 9999 42 _ _ hS hp]
 simp only [Program.fieldsOf, Try.underlying42]
 simp [Op.eqFields, part, isAgg, run_underlying u4, run_equalIn_bool', u4, h5, z25, same5, coneC]
theorem eq_rat {S : Array Value} (hS : RC S) (w : World) : (binOp .eql 40 (.agg S) (.agg S)).run Try.prog w = .ok (.bool true) w := by
 obtain ⟨s, a, b, c, e, t, f, g, h, i, rfl⟩ := hS
 rw [eq10]; simp [same5]
def frC (f : Fr) : Array Value := #[.bool (sg f.1), .int .u64 (l0 f.1 : Int), .int .u64 (l1 f.1 : Int), .int .u64 (l2 f.1 : Int), .int .u64 (l3 f.1 : Int), .bool (sg f.2), .int .u64 (l0 f.2 : Int), .int .u64 (l1 f.2 : Int), .int .u64 (l2 f.2 : Int), .int .u64 (l3 f.2 : Int)]
theorem frC_rc (f : Fr) : RC (frC f) := ⟨_, _, _, _, _, _, _, _, _, _, rfl⟩
def cnC : Cn → Array Value
 | .op => stC
 | .cl a b => coneC false (frC a) (frC b)
theorem cnC_form (c : Cn) : ∃ o L H, cnC c = coneC o L H ∧ RC L ∧ RC H := by
 cases c with
 | op => exact ⟨true, zR, zR, stC_cone, RC.zero, RC.zero⟩
 | cl a b => exact ⟨false, _, _, rfl, frC_rc a, frC_rc b⟩
def z5 : Array Value := #[.bool false, .int .u64 0, .int .u64 0, .int .u64 0, .int .u64 0]
theorem uWide : Try.prog.underlying 25 = some (.struct (Try.prog.fieldsOf 25)) := by kernel_rfl
theorem iWide : (Try.prog.info? 25).map (·.size) = some 5 := by kernel_rfl
theorem ld_all {w : World} {g : Nat} {t ty : TypeId} {X : Array Value} {n : Nat} {d : TypeDesc} (h : Blk w g t X) (hu : Try.prog.underlying ty = some d) (hd : aggT d) (hi : (Try.prog.info? ty).map (·.size) = some n) (hn : X.size = n) : (Instr.loadAt ty (.pointer (some ⟨g, 0, none⟩))).run Try.prog w = .ok (.agg X) w :=
 run_load_part h _ _ hu hd 0 n hi (by omega) _ (by rw [Nat.zero_add, ← hn]; simp)
end
section
open Go Go.RowKit
theorem Box.same {kd : List Tag} {tgt : Nat → Nat} {W w : World} {g : Nat} {s : Bool} {a b c d : Nat} (x : Box W g s a b c d) (h : Same kd tgt W w) (hc : ∀ c, Tag.so c ∈ kd → tgt c ≠ g) : Box w g s a b c d := h.block x hc
theorem run_wide {w : World} {g : Nat} {s s' : Bool} {a b c d a' b' c' d' : Nat} (hz : Box w g s' a' b' c' d') : (Instr.storeAt 25 (ptrTo g) (.agg #[.bool s, .int .u64 (a : Int), .int .u64 (b : Int), .int .u64 (c : Int), .int .u64 (d : Int)])).run Try.prog w = .ok () (((((w.setCell ⟨g, 0, none⟩ (.bool s)).setCell ⟨g, 1, none⟩ (.int .u64 (a : Int))).setCell ⟨g, 2, none⟩ (.int .u64 (b : Int))).setCell ⟨g, 3, none⟩ (.int .u64 (c : Int))).setCell ⟨g, 4, none⟩ (.int .u64 (d : Int))) := by
 obtain ⟨q0, q1, q2, q3, q4, r0, r1, r2, r3, r4⟩ := five_cells hz
 unfold ptrTo
 go_simp
theorem store_wide {ρ : Operand → Value} {o : Oper} {p x : Operand} {w : World} {g : Nat} {s s' : Bool} {a b c d a' b' c' d' : Nat} (hop : o.op = .store 25 p x) (hp : ρ p = ptrTo g) (hx : ρ x = .agg #[.bool s, .int .u64 (a : Int), .int .u64 (b : Int), .int .u64 (c : Int), .int .u64 (d : Int)]) (hz : w.heap[g]? = some (.cells #[.bool s', .int .u64 (a' : Int), .int .u64 (b' : Int), .int .u64 (c' : Int), .int .u64 (d' : Int)] 25 (0, 0))) :
   Stores Try.prog ρ o w g (.cells #[.bool s, .int .u64 (a : Int), .int .u64 (b : Int), .int .u64 (c : Int), .int .u64 (d : Int)] 25 (0, 0)) := by
 have h1 : (execOp ρ o).run Try.prog w = .ok .skip (((((w.setCell ⟨g, 0, none⟩ (.bool s)).setCell ⟨g, 1, none⟩ (.int .u64 (a : Int))).setCell ⟨g, 2, none⟩ (.int .u64 (b : Int))).setCell ⟨g, 3, none⟩ (.int .u64 (c : Int))).setCell ⟨g, 4, none⟩ (.int .u64 (d : Int))) := by
   refine run_storeOp hop ?_
   rw [hp, hx]
   exact run_wide (s := s) (a := a) (b := b) (c := c) (d := d) (show Box w g s' a' b' c' d' from hz)
 have h2 : Box (((((w.setCell ⟨g, 0, none⟩ (.bool s)).setCell ⟨g, 1, none⟩ (.int .u64 (a : Int))).setCell ⟨g, 2, none⟩ (.int .u64 (b : Int))).setCell ⟨g, 3, none⟩ (.int .u64 (c : Int))).setCell ⟨g, 4, none⟩ (.int .u64 (d : Int))) g s a b c d := Box.put (show Box w g s' a' b' c' d' from hz)
 refine ⟨_, h1, h2, ?_, ?_, ?_, ?_, ?_⟩
 · intro k hk
   rw [far_set hk, far_set hk, far_set hk, far_set hk, far_set hk]
 · simp only [World.size_setCell]
 · simp only [os_set]
 · simp only [tape_set]
 · simp only [output_set]
end
section
open Go Go.RowKit
theorem Box10.same {kd : List Tag} {tgt : Nat → Nat} {W w : World} {k : Nat} {s : Bool} {a b c d : Nat} {t : Bool} {e f g h : Nat} (x : Box10 W k s a b c d t e f g h) (y : Same kd tgt W w) (hc : ∀ c, Tag.so c ∈ kd → tgt c ≠ k) : Box10 w k s a b c d t e f g h := y.block x hc
theorem run_ratio {w : World} {g : Nat} {s s' t t' : Bool} {a b c d e f h i a' b' c' d' e' f' h' i' : Nat} (hz : Box10 w g s' a' b' c' d' t' e' f' h' i') : (Instr.storeAt 40 (ptrTo g) (.agg #[.bool s, .int .u64 (a : Int), .int .u64 (b : Int), .int .u64 (c : Int), .int .u64 (d : Int), .bool t, .int .u64 (e : Int), .int .u64 (f : Int), .int .u64 (h : Int), .int .u64 (i : Int)])).run Try.prog w = .ok () ((((((((((w.setCell ⟨g, 0, none⟩ (.bool s)).setCell ⟨g, 1, none⟩ (.int .u64 (a : Int))).setCell ⟨g, 2, none⟩ (.int .u64 (b : Int))).setCell ⟨g, 3, none⟩ (.int .u64 (c : Int))).setCell ⟨g, 4, none⟩ (.int .u64 (d : Int))).setCell ⟨g, 5, none⟩ (.bool t)).setCell ⟨g, 6, none⟩ (.int .u64 (e : Int))).setCell ⟨g, 7, none⟩ (.int .u64 (f : Int))).setCell ⟨g, 8, none⟩ (.int .u64 (h : Int))).setCell ⟨g, 9, none⟩ (.int .u64 (i : Int))) := by
 obtain ⟨q0, q1, q2, q3, q4, q5, q6, q7, q8, q9, r0, r1, r2, r3, r4, r5, r6, r7, r8, r9⟩ := ten_cells hz
 unfold ptrTo
 go_simp
theorem store_ratio {ρ : Operand → Value} {o : Oper} {p x : Operand} {w : World} {g : Nat} {s s' t t' : Bool} {a b c d e f h i a' b' c' d' e' f' h' i' : Nat} (hop : o.op = .store 40 p x) (hp : ρ p = ptrTo g) (hx : ρ x = .agg #[.bool s, .int .u64 (a : Int), .int .u64 (b : Int), .int .u64 (c : Int), .int .u64 (d : Int), .bool t, .int .u64 (e : Int), .int .u64 (f : Int), .int .u64 (h : Int), .int .u64 (i : Int)]) (hz : w.heap[g]? = some (.cells #[.bool s', .int .u64 (a' : Int), .int .u64 (b' : Int), .int .u64 (c' : Int), .int .u64 (d' : Int), .bool t', .int .u64 (e' : Int), .int .u64 (f' : Int), .int .u64 (h' : Int), .int .u64 (i' : Int)] 40 (0, 0))) :
   Stores Try.prog ρ o w g (.cells #[.bool s, .int .u64 (a : Int), .int .u64 (b : Int), .int .u64 (c : Int), .int .u64 (d : Int), .bool t, .int .u64 (e : Int), .int .u64 (f : Int), .int .u64 (h : Int), .int .u64 (i : Int)] 40 (0, 0)) := by
 have h1 : (execOp ρ o).run Try.prog w = .ok .skip ((((((((((w.setCell ⟨g, 0, none⟩ (.bool s)).setCell ⟨g, 1, none⟩ (.int .u64 (a : Int))).setCell ⟨g, 2, none⟩ (.int .u64 (b : Int))).setCell ⟨g, 3, none⟩ (.int .u64 (c : Int))).setCell ⟨g, 4, none⟩ (.int .u64 (d : Int))).setCell ⟨g, 5, none⟩ (.bool t)).setCell ⟨g, 6, none⟩ (.int .u64 (e : Int))).setCell ⟨g, 7, none⟩ (.int .u64 (f : Int))).setCell ⟨g, 8, none⟩ (.int .u64 (h : Int))).setCell ⟨g, 9, none⟩ (.int .u64 (i : Int))) := by
   refine run_storeOp hop ?_
   rw [hp, hx]
   exact run_ratio (s := s) (a := a) (b := b) (c := c) (d := d) (t := t) (e := e) (f := f) (h := h) (i := i) (show Box10 w g s' a' b' c' d' t' e' f' h' i' from hz)
 have h2 : Box10 ((((((((((w.setCell ⟨g, 0, none⟩ (.bool s)).setCell ⟨g, 1, none⟩ (.int .u64 (a : Int))).setCell ⟨g, 2, none⟩ (.int .u64 (b : Int))).setCell ⟨g, 3, none⟩ (.int .u64 (c : Int))).setCell ⟨g, 4, none⟩ (.int .u64 (d : Int))).setCell ⟨g, 5, none⟩ (.bool t)).setCell ⟨g, 6, none⟩ (.int .u64 (e : Int))).setCell ⟨g, 7, none⟩ (.int .u64 (f : Int))).setCell ⟨g, 8, none⟩ (.int .u64 (h : Int))).setCell ⟨g, 9, none⟩ (.int .u64 (i : Int))) g s a b c d t e f h i := Box10.put (show Box10 w g s' a' b' c' d' t' e' f' h' i' from hz)
 refine ⟨_, h1, h2, ?_, ?_, ?_, ?_, ?_⟩
 · intro k hk
   rw [far_set hk, far_set hk, far_set hk, far_set hk, far_set hk, far_set hk, far_set hk, far_set hk, far_set hk, far_set hk]
 · simp only [World.size_setCell]
 · simp only [os_set]
 · simp only [tape_set]
 · simp only [output_set]
end
section
open Go Go.RowKit Go.Sort
attribute [local go_sem] qUpon putAll slotV
set_option maxRecDepth 100000 in
set_option maxHeartbeats 8000000 in
theorem s_integer {z : Int} (hz : F256 z) (w : World) : Calls Try.prog 91 #[.agg #[.bool (sg z), .int .u64 (l0 z : Int), .int .u64 (l1 z : Int), .int .u64 (l2 z : Int), .int .u64 (l3 z : Int)]] w (Ret (.agg #[.bool (sg z), .int .u64 (l0 z : Int), .int .u64 (l1 z : Int), .int .u64 (l2 z : Int), .int .u64 (l3 z : Int), .bool (sg 1), .int .u64 (l0 1 : Int), .int .u64 (l1 1 : Int), .int .u64 (l2 1 : Int), .int .u64 (l3 1 : Int)]) w) := by
 have kO : Hid (∀ w, Calls Try.prog 39 #[.int .i64 1] w (Ret (.agg #[.bool (sg 1), .int .u64 (l0 1 : Int), .int .u64 (l1 1 : Int), .int .u64 (l2 1 : Int), .int .u64 (l3 1 : Int)]) w)) := fun w => c_ofi (by omega) (by omega) w
 obtain ⟨W0, hW0⟩ : ∃ W0, W0 = ((w.alloc (.cells #[.bool (sg z), .int .u64 (l0 z : Int), .int .u64 (l1 z : Int), .int .u64 (l2 z : Int), .int .u64 (l3 z : Int)] 25)).alloc (.cells #[.bool false, .int .u64 0, .int .u64 0, .int .u64 0, .int .u64 0, .bool false, .int .u64 0, .int .u64 0, .int .u64 0, .int .u64 0] 40)) := ⟨_, rfl⟩
 have H2 := two_blocks w (.cells #[.bool (sg z), .int .u64 (l0 z : Int), .int .u64 (l1 z : Int), .int .u64 (l2 z : Int), .int .u64 (l3 z : Int)] 25) (.cells #[.bool false, .int .u64 0, .int .u64 0, .int .u64 0, .int .u64 0, .bool false, .int .u64 0, .int .u64 0, .int .u64 0, .int .u64 0] 40)
 have EE0 : Ext w W0 := by rw [hW0]; exact ((ext_alloc _ _).trans (ext_alloc _ _))
 rw [← hW0] at H2
 have EE := hide EE0
 have HW := hide hW0
 obtain ⟨P1, P2⟩ : Box W0 (w.heap.size) (sg z) (l0 z) (l1 z) (l2 z) (l3 z) ∧ Box10 W0 ((w.heap.size + 1)) false 0 0 0 0 false 0 0 0 0 := H2
 clear hW0 EE0
 go_enter Try.func91, Try.ntmps91
 go_upto_region 1 with fail
 rw [← HW.out]
 clear HW
 have hg0 : w.heap.size ≤ w.heap.size := Nat.le_refl _
 obtain ⟨g0, hg⟩ : ∃ g, w.heap.size = g := ⟨_, rfl⟩
 rw [hg] at P1 P2 ⊢
 replace hg0 : w.heap.size ≤ g0 := Nat.le_of_eq hg
 clear hg
 have lbP1 := P1.lt
 have lbP2 := P2.lt
 have ltW0 : ∀ c, Tag.so c ∈ [.q, .q, .q, .so 0] → (fun _ => g0 + 1) c < W0.heap.size := by intro c hc; simp at hc; (try subst hc); (try simp only); omega
 refine wp_decl [.q, .q, .q, .so 0] [.agg #[.bool (sg z), .int .u64 (l0 z : Int), .int .u64 (l1 z : Int), .int .u64 (l2 z : Int), .int .u64 (l3 z : Int)], .agg #[.bool (sg 1), .int .u64 (l0 1 : Int), .int .u64 (l1 1 : Int), .int .u64 (l2 1 : Int), .int .u64 (l3 1 : Int)], .agg #[.bool (sg z), .int .u64 (l0 z : Int), .int .u64 (l1 z : Int), .int .u64 (l2 z : Int), .int .u64 (l3 z : Int), .bool (sg 1), .int .u64 (l0 1 : Int), .int .u64 (l1 1 : Int), .int .u64 (l2 1 : Int), .int .u64 (l3 1 : Int)], undef] (fun _ => (.cells #[.bool false, .int .u64 0, .int .u64 0, .int .u64 0, .int .u64 0] 25 (0, 0))) (fun _ => (.cells #[.bool (sg z), .int .u64 (l0 z : Int), .int .u64 (l1 z : Int), .int .u64 (l2 z : Int), .int .u64 (l3 z : Int), .bool (sg 1), .int .u64 (l0 1 : Int), .int .u64 (l1 1 : Int), .int .u64 (l2 1 : Int), .int .u64 (l3 1 : Int)] 40 (0, 0))) (fun _ => g0 + 1) (by kernel_rfl) (by kernel_rfl) (by kernel_rfl) rfl rfl ltW0 (by intro c c' h1 h2 _; simp at h1 h2; omega) ?_ ?_
 · refine ⟨?_, ?_, ?_, ?_, trivial⟩
   · refine op_q ?uvn2 ?h1n2 ?h2n2 ?h3n2
     case h1n2 => exact rfl
     case uvn2 => exact (.agg #[.bool (sg z), .int .u64 (l0 z : Int), .int .u64 (l1 z : Int), .int .u64 (l2 z : Int), .int .u64 (l3 z : Int)])
     case h2n2 => exact rfl
     intro w' hw'
     have P1 := P1.same hw' (by intro c hc; simp at hc; (try subst hc); (try simp only); omega)
     have xP1 := five_cells P1
     go_simp
   · refine op_q ?uvn3 ?h1n3 ?h2n3 ?h3n3
     case h1n3 => exact rfl
     case uvn3 => exact (.agg #[.bool (sg 1), .int .u64 (l0 1 : Int), .int .u64 (l1 1 : Int), .int .u64 (l2 1 : Int), .int .u64 (l3 1 : Int)])
     case h2n3 => exact rfl
     intro w' hw'
     go_simp
     exact kO.out w'
   · refine op_q ?uvn4 ?h1n4 ?h2n4 ?h3n4
     case h1n4 => exact rfl
     case uvn4 => exact (.agg #[.bool (sg z), .int .u64 (l0 z : Int), .int .u64 (l1 z : Int), .int .u64 (l2 z : Int), .int .u64 (l3 z : Int), .bool (sg 1), .int .u64 (l0 1 : Int), .int .u64 (l1 1 : Int), .int .u64 (l2 1 : Int), .int .u64 (l3 1 : Int)])
     case h2n4 => exact rfl
     intro w' hw'
     go_simp
   · refine op_so (c := 0) (T := ?uTn5) (p := ?upn5) (x := ?uxn5) ?ugn5 ?ufn5 ?uvn5 ?h1n5 ?h2n5 ?h3n5 ?h4n5 ?h5n5 ?h6n5 ?h7n5
     case h1n5 => exact rfl
     case h2n5 => exact rfl
     case ufn5 => exact (.cells #[.bool (sg z), .int .u64 (l0 z : Int), .int .u64 (l1 z : Int), .int .u64 (l2 z : Int), .int .u64 (l3 z : Int), .bool (sg 1), .int .u64 (l0 1 : Int), .int .u64 (l1 1 : Int), .int .u64 (l2 1 : Int), .int .u64 (l3 1 : Int)] 40 (0, 0))
     case ugn5 => exact g0 + 1
     case uvn5 => exact (.agg #[.bool (sg z), .int .u64 (l0 z : Int), .int .u64 (l1 z : Int), .int .u64 (l2 z : Int), .int .u64 (l3 z : Int), .bool (sg 1), .int .u64 (l0 1 : Int), .int .u64 (l1 1 : Int), .int .u64 (l2 1 : Int), .int .u64 (l3 1 : Int)])
     case h3n5 => exact rfl
     case h4n5 => exact rfl
     case h5n5 => go_simp; rfl
     case h6n5 => go_simp
     intro ρ w' hp hx hz
     exact store_ratio rfl hp hx (hz.trans P2)
 · intro G W1 hI
   have hS := hI.same
   have P1 := P1.same hS (by intro c hc; simp at hc; (try subst hc); (try simp only); omega)
   have hso : ∀ c, Tag.so c ∈ [.q, .q, .q, .so 0] → w.heap.size ≤ (fun _ => g0 + 1) c := by intro c hc; simp at hc; (try subst hc); (try simp only); omega
   have EE := hide (hS.ext' EE.out hso)
   have P2 : Box10 W1 (g0 + 1) (sg z) (l0 z) (l1 z) (l2 z) (l3 z) (sg 1) (l0 1) (l1 1) (l2 1) (l3 1) := hI.olds' 3 (List.mem_range.2 (show 3 < 4 by decide)) 0 rfl
   clear hI hS
   simp only [putAll, slotV, ptrTo, Nat.zero_add, Nat.reduceAdd]
   go_wp2_with fail
   obtain ⟨xP20, xP21, xP22, xP23, xP24, xP25, xP26, xP27, xP28, xP29, xP2f0, xP2f1, xP2f2, xP2f3, xP2f4, xP2f5, xP2f6, xP2f7, xP2f8, xP2f9⟩ := ten_cells P2
   exact bodyPost_ret (v := .agg #[.bool (sg z), .int .u64 (l0 z : Int), .int .u64 (l1 z : Int), .int .u64 (l2 z : Int), .int .u64 (l3 z : Int), .bool (sg 1), .int .u64 (l0 1 : Int), .int .u64 (l1 1 : Int), .int .u64 (l2 1 : Int), .int .u64 (l3 1 : Int)]) (by simp [results, Try.results91, go_sem, xP20, xP21, xP22, xP23, xP24, xP25, xP26, xP27, xP28, xP29]) rfl ⟨rfl, EE.out⟩
set_option maxRecDepth 100000 in
set_option maxHeartbeats 8000000 in
theorem s_negative {n d m : Int} (hn : F256 n) (e : -n = m) (w : World) : Calls Try.prog 75 #[.agg #[.bool (sg n), .int .u64 (l0 n : Int), .int .u64 (l1 n : Int), .int .u64 (l2 n : Int), .int .u64 (l3 n : Int), .bool (sg d), .int .u64 (l0 d : Int), .int .u64 (l1 d : Int), .int .u64 (l2 d : Int), .int .u64 (l3 d : Int)]] w (Ret (.agg #[.bool (sg m), .int .u64 (l0 m : Int), .int .u64 (l1 m : Int), .int .u64 (l2 m : Int), .int .u64 (l3 m : Int), .bool (sg d), .int .u64 (l0 d : Int), .int .u64 (l1 d : Int), .int .u64 (l2 d : Int), .int .u64 (l3 d : Int)]) w) := by
 have kN : Hid (∀ w, Calls Try.prog 65 #[.agg #[.bool (sg n), .int .u64 (l0 n : Int), .int .u64 (l1 n : Int), .int .u64 (l2 n : Int), .int .u64 (l3 n : Int)]] w (Ret (.agg #[.bool (sg m), .int .u64 (l0 m : Int), .int .u64 (l1 m : Int), .int .u64 (l2 m : Int), .int .u64 (l3 m : Int)]) w)) := fun w => c_neg hn e w
 clear e
 obtain ⟨W0, hW0⟩ : ∃ W0, W0 = ((w.alloc (.cells #[.bool (sg n), .int .u64 (l0 n : Int), .int .u64 (l1 n : Int), .int .u64 (l2 n : Int), .int .u64 (l3 n : Int), .bool (sg d), .int .u64 (l0 d : Int), .int .u64 (l1 d : Int), .int .u64 (l2 d : Int), .int .u64 (l3 d : Int)] 40)).alloc (.cells #[.bool false, .int .u64 0, .int .u64 0, .int .u64 0, .int .u64 0, .bool false, .int .u64 0, .int .u64 0, .int .u64 0, .int .u64 0] 40)) := ⟨_, rfl⟩
 have H2 := two_blocks w (.cells #[.bool (sg n), .int .u64 (l0 n : Int), .int .u64 (l1 n : Int), .int .u64 (l2 n : Int), .int .u64 (l3 n : Int), .bool (sg d), .int .u64 (l0 d : Int), .int .u64 (l1 d : Int), .int .u64 (l2 d : Int), .int .u64 (l3 d : Int)] 40) (.cells #[.bool false, .int .u64 0, .int .u64 0, .int .u64 0, .int .u64 0, .bool false, .int .u64 0, .int .u64 0, .int .u64 0, .int .u64 0] 40)
 have EE0 : Ext w W0 := by rw [hW0]; exact ((ext_alloc _ _).trans (ext_alloc _ _))
 rw [← hW0] at H2
 have EE := hide EE0
 have HW := hide hW0
 obtain ⟨P1, P2⟩ : Box10 W0 (w.heap.size) (sg n) (l0 n) (l1 n) (l2 n) (l3 n) (sg d) (l0 d) (l1 d) (l2 d) (l3 d) ∧ Box10 W0 ((w.heap.size + 1)) false 0 0 0 0 false 0 0 0 0 := H2
 clear hW0 EE0
 go_enter Try.func75, Try.ntmps75
 go_upto_region 1 with fail
 rw [← HW.out]
 clear HW
 have hg0 : w.heap.size ≤ w.heap.size := Nat.le_refl _
 obtain ⟨g0, hg⟩ : ∃ g, w.heap.size = g := ⟨_, rfl⟩
 rw [hg] at P1 P2 ⊢
 replace hg0 : w.heap.size ≤ g0 := Nat.le_of_eq hg
 clear hg
 have lbP1 := P1.lt
 have lbP2 := P2.lt
 have ltW0 : ∀ c, Tag.so c ∈ [.q, .q, .q, .q, .q, .q, .so 0] → (fun _ => g0 + 1) c < W0.heap.size := by intro c hc; simp at hc; (try subst hc); (try simp only); omega
 refine wp_decl [.q, .q, .q, .q, .q, .q, .so 0] [.pointer (some ⟨g0, 0, none⟩), .agg #[.bool (sg n), .int .u64 (l0 n : Int), .int .u64 (l1 n : Int), .int .u64 (l2 n : Int), .int .u64 (l3 n : Int)], .agg #[.bool (sg m), .int .u64 (l0 m : Int), .int .u64 (l1 m : Int), .int .u64 (l2 m : Int), .int .u64 (l3 m : Int)], .pointer (some ⟨g0, 5, none⟩), .agg #[.bool (sg d), .int .u64 (l0 d : Int), .int .u64 (l1 d : Int), .int .u64 (l2 d : Int), .int .u64 (l3 d : Int)], .agg #[.bool (sg m), .int .u64 (l0 m : Int), .int .u64 (l1 m : Int), .int .u64 (l2 m : Int), .int .u64 (l3 m : Int), .bool (sg d), .int .u64 (l0 d : Int), .int .u64 (l1 d : Int), .int .u64 (l2 d : Int), .int .u64 (l3 d : Int)], undef] (fun _ => (.cells #[.bool false, .int .u64 0, .int .u64 0, .int .u64 0, .int .u64 0] 25 (0, 0))) (fun _ => (.cells #[.bool (sg m), .int .u64 (l0 m : Int), .int .u64 (l1 m : Int), .int .u64 (l2 m : Int), .int .u64 (l3 m : Int), .bool (sg d), .int .u64 (l0 d : Int), .int .u64 (l1 d : Int), .int .u64 (l2 d : Int), .int .u64 (l3 d : Int)] 40 (0, 0))) (fun _ => g0 + 1) (by kernel_rfl) (by kernel_rfl) (by kernel_rfl) rfl rfl ltW0 (by intro c c' h1 h2 _; simp at h1 h2; omega) ?_ ?_
 · refine ⟨?_, ?_, ?_, ?_, ?_, ?_, ?_, trivial⟩
   · refine op_q ?uvn7 ?h1n7 ?h2n7 ?h3n7
     case h1n7 => exact rfl
     case uvn7 => exact (.pointer (some ⟨g0, 0, none⟩))
     case h2n7 => exact rfl
     intro w' hw'
     go_simp
   · refine op_q ?uvn8 ?h1n8 ?h2n8 ?h3n8
     case h1n8 => exact rfl
     case uvn8 => exact (.agg #[.bool (sg n), .int .u64 (l0 n : Int), .int .u64 (l1 n : Int), .int .u64 (l2 n : Int), .int .u64 (l3 n : Int)])
     case h2n8 => exact rfl
     intro w' hw'
     have P1 := P1.same hw' (by intro c hc; simp at hc; (try subst hc); (try simp only); omega)
     have xP1 := ten_cells P1
     go_simp
   · refine op_q ?uvn9 ?h1n9 ?h2n9 ?h3n9
     case h1n9 => exact rfl
     case uvn9 => exact (.agg #[.bool (sg m), .int .u64 (l0 m : Int), .int .u64 (l1 m : Int), .int .u64 (l2 m : Int), .int .u64 (l3 m : Int)])
     case h2n9 => exact rfl
     intro w' hw'
     go_simp
     exact kN.out w'
   · refine op_q ?uvn10 ?h1n10 ?h2n10 ?h3n10
     case h1n10 => exact rfl
     case uvn10 => exact (.pointer (some ⟨g0, 5, none⟩))
     case h2n10 => exact rfl
     intro w' hw'
     go_simp
   · refine op_q ?uvn11 ?h1n11 ?h2n11 ?h3n11
     case h1n11 => exact rfl
     case uvn11 => exact (.agg #[.bool (sg d), .int .u64 (l0 d : Int), .int .u64 (l1 d : Int), .int .u64 (l2 d : Int), .int .u64 (l3 d : Int)])
     case h2n11 => exact rfl
     intro w' hw'
     have P1 := P1.same hw' (by intro c hc; simp at hc; (try subst hc); (try simp only); omega)
     have xP1 := ten_cells P1
     go_simp
   · refine op_q ?uvn12 ?h1n12 ?h2n12 ?h3n12
     case h1n12 => exact rfl
     case uvn12 => exact (.agg #[.bool (sg m), .int .u64 (l0 m : Int), .int .u64 (l1 m : Int), .int .u64 (l2 m : Int), .int .u64 (l3 m : Int), .bool (sg d), .int .u64 (l0 d : Int), .int .u64 (l1 d : Int), .int .u64 (l2 d : Int), .int .u64 (l3 d : Int)])
     case h2n12 => exact rfl
     intro w' hw'
     go_simp
   · refine op_so (c := 0) (T := ?uTn13) (p := ?upn13) (x := ?uxn13) ?ugn13 ?ufn13 ?uvn13 ?h1n13 ?h2n13 ?h3n13 ?h4n13 ?h5n13 ?h6n13 ?h7n13
     case h1n13 => exact rfl
     case h2n13 => exact rfl
     case ufn13 => exact (.cells #[.bool (sg m), .int .u64 (l0 m : Int), .int .u64 (l1 m : Int), .int .u64 (l2 m : Int), .int .u64 (l3 m : Int), .bool (sg d), .int .u64 (l0 d : Int), .int .u64 (l1 d : Int), .int .u64 (l2 d : Int), .int .u64 (l3 d : Int)] 40 (0, 0))
     case ugn13 => exact g0 + 1
     case uvn13 => exact (.agg #[.bool (sg m), .int .u64 (l0 m : Int), .int .u64 (l1 m : Int), .int .u64 (l2 m : Int), .int .u64 (l3 m : Int), .bool (sg d), .int .u64 (l0 d : Int), .int .u64 (l1 d : Int), .int .u64 (l2 d : Int), .int .u64 (l3 d : Int)])
     case h3n13 => exact rfl
     case h4n13 => exact rfl
     case h5n13 => go_simp; rfl
     case h6n13 => go_simp
     intro ρ w' hp hx hz
     exact store_ratio rfl hp hx (hz.trans P2)
 · intro G W1 hI
   have hS := hI.same
   have P1 := P1.same hS (by intro c hc; simp at hc; (try subst hc); (try simp only); omega)
   have hso : ∀ c, Tag.so c ∈ [.q, .q, .q, .q, .q, .q, .so 0] → w.heap.size ≤ (fun _ => g0 + 1) c := by intro c hc; simp at hc; (try subst hc); (try simp only); omega
   have EE := hide (hS.ext' EE.out hso)
   have P2 : Box10 W1 (g0 + 1) (sg m) (l0 m) (l1 m) (l2 m) (l3 m) (sg d) (l0 d) (l1 d) (l2 d) (l3 d) := hI.olds' 6 (List.mem_range.2 (show 6 < 7 by decide)) 0 rfl
   clear hI hS
   simp only [putAll, slotV, ptrTo, Nat.zero_add, Nat.reduceAdd]
   go_wp2_with fail
   obtain ⟨xP20, xP21, xP22, xP23, xP24, xP25, xP26, xP27, xP28, xP29, xP2f0, xP2f1, xP2f2, xP2f3, xP2f4, xP2f5, xP2f6, xP2f7, xP2f8, xP2f9⟩ := ten_cells P2
   exact bodyPost_ret (v := .agg #[.bool (sg m), .int .u64 (l0 m : Int), .int .u64 (l1 m : Int), .int .u64 (l2 m : Int), .int .u64 (l3 m : Int), .bool (sg d), .int .u64 (l0 d : Int), .int .u64 (l1 d : Int), .int .u64 (l2 d : Int), .int .u64 (l3 d : Int)]) (by simp [results, Try.results75, go_sem, xP20, xP21, xP22, xP23, xP24, xP25, xP26, xP27, xP28, xP29]) rfl ⟨rfl, EE.out⟩
end
section
open Go Go.RowKit Go.Sort
attribute [local go_sem] qUpon putAll slotV
theorem sign_pos {z : Int} (h : 0 < z) : z.sign = 1 := Int.sign_eq_one_of_pos h
theorem sign_neg {z : Int} (h : z < 0) : z.sign = -1 := Int.sign_eq_neg_one_of_neg h
theorem F256.abs {z : Int} (h : F256 z) : F256 (z.natAbs : Int) := by unfold F256 at *; simpa using h
theorem F256.neg {z : Int} (h : F256 z) : F256 (-z) := by unfold F256 at *; simpa using h
theorem some_sign (z : Int) : ∃ k : Int, z.sign = k ∧ (k < 0 ↔ z < 0) ∧ (0 < k ↔ 0 < z) ∧ (k = 0 ↔ z = 0) := by
 refine ⟨_, rfl, ?_⟩
 rcases Int.lt_trichotomy z 0 with h | h | h
 · rw [sign_neg h]; omega
 · subst h; simp
 · rw [sign_pos h]; omega
theorem neWW {x y : Int} (hx : F256 x) (hy : F256 y) (w : World) : (binOp .neq 25 (.agg #[.bool (sg x), .int .u64 (l0 x : Int), .int .u64 (l1 x : Int), .int .u64 (l2 x : Int), .int .u64 (l3 x : Int)]) (.agg #[.bool (sg y), .int .u64 (l0 y : Int), .int .u64 (l1 y : Int), .int .u64 (l2 y : Int), .int .u64 (l3 y : Int)])).run Try.prog w = .ok (.bool (decide (x ≠ y))) w := by
 rw [neq5]
 have e := same_isC (isC_of hx) (isC_of hy)
 unfold same5 at e
 rw [e]; simp
end
section
open Go Go.RowKit Go.Sort
attribute [local go_sem] qUpon putAll slotV
theorem f256_of {z : Int} (h : z.natAbs < 170141183460469231731687303715884105728) : F256 z := F256.mk h
set_option maxRecDepth 100000 in
set_option maxHeartbeats 8000000 in
theorem s_bp : ∀ (k : Nat) (a b c d n m : Int), (b + d).toNat < k → 0 < a → 0 < b → 0 < d → a * d ≤ c * b → a.natAbs < 170141183460469231731687303715884105728 → b.natAbs < 170141183460469231731687303715884105728 → c.natAbs < 170141183460469231731687303715884105728 → d.natAbs < 170141183460469231731687303715884105728 → Best a b c d n m → ∀ w : World, Calls Try.prog 74 #[.agg #[.bool (sg a), .int .u64 (l0 a : Int), .int .u64 (l1 a : Int), .int .u64 (l2 a : Int), .int .u64 (l3 a : Int), .bool (sg b), .int .u64 (l0 b : Int), .int .u64 (l1 b : Int), .int .u64 (l2 b : Int), .int .u64 (l3 b : Int)], .agg #[.bool (sg c), .int .u64 (l0 c : Int), .int .u64 (l1 c : Int), .int .u64 (l2 c : Int), .int .u64 (l3 c : Int), .bool (sg d), .int .u64 (l0 d : Int), .int .u64 (l1 d : Int), .int .u64 (l2 d : Int), .int .u64 (l3 d : Int)]] w (Ret (.agg #[.bool (sg n), .int .u64 (l0 n : Int), .int .u64 (l1 n : Int), .int .u64 (l2 n : Int), .int .u64 (l3 n : Int), .bool (sg m), .int .u64 (l0 m : Int), .int .u64 (l1 m : Int), .int .u64 (l2 m : Int), .int .u64 (l3 m : Int)]) w)
 | 0, _, _, _, _, _, _, hk, _, _, _, _, _, _, _, _, _, _ => by omega
 | k + 1, a, b, c, d, n, m, hk, ha, hb, hd, hle, sa, sb, sc, sd, B, w => by
   obtain ⟨q, hq⟩ : ∃ q, a / b = q := ⟨_, rfl⟩
   obtain ⟨r, hr⟩ : ∃ q, a % b = q := ⟨_, rfl⟩
   obtain ⟨p, hp⟩ : ∃ q, c / d = q := ⟨_, rfl⟩
   obtain ⟨t, ht⟩ : ∃ q, c % d = q := ⟨_, rfl⟩
   have q0 : 0 ≤ q := by rw [← hq]; exact Int.ediv_nonneg (by omega) (by omega)
   have qa : q ≤ a := by rw [← hq]; exact Int.ediv_le_self _ (by omega)
   have r0 : 0 ≤ r := by rw [← hr]; exact Int.emod_nonneg _ (by omega)
   have rb : r < b := by rw [← hr]; exact Int.emod_lt_of_pos _ hb
   have t0 : 0 ≤ t := by rw [← ht]; exact Int.emod_nonneg _ (by omega)
   have td : t < d := by rw [← ht]; exact Int.emod_lt_of_pos _ hd
   have pc : p.natAbs ≤ c.natAbs := by rw [← hp]; exact Int.natAbs_ediv_le_natAbs _ _
   have fa := f256_of sa
   have fb := f256_of sb
   have fc := f256_of sc
   have fd := f256_of sd
   have fq : F256 q := f256_of (by omega)
   have fr : F256 r := f256_of (by omega)
   have fp : F256 p := f256_of (by omega)
   have ft : F256 t := f256_of (by omega)
   have BS := (B.small hb hd hle).1
   have n0 := B.pos ha hb
   have m0 := B.1
   have kD : Hid (∀ w, Calls Try.prog 72 #[.agg #[.bool (sg a), .int .u64 (l0 a : Int), .int .u64 (l1 a : Int), .int .u64 (l2 a : Int), .int .u64 (l3 a : Int)], .agg #[.bool (sg b), .int .u64 (l0 b : Int), .int .u64 (l1 b : Int), .int .u64 (l2 b : Int), .int .u64 (l3 b : Int)]] w (Ret (.tuple #[.agg #[.bool (sg q), .int .u64 (l0 q : Int), .int .u64 (l1 q : Int), .int .u64 (l2 q : Int), .int .u64 (l3 q : Int)], .agg #[.bool (sg r), .int .u64 (l0 r : Int), .int .u64 (l1 r : Int), .int .u64 (l2 r : Int), .int .u64 (l3 r : Int)], .bool true]) w)) := fun w => c_div fa fb (by omega) hq hr w
   by_cases h0 : r = 0
   · obtain ⟨en, em⟩ := Best.unique hb hd B (best_whole ha hb hd hle (by rw [hr]; exact h0))
     rw [hq] at en
     subst en em
     replace kD := kD
     have kS : Hid (∀ w, Calls Try.prog 70 #[.agg #[.bool (sg r), .int .u64 (l0 r : Int), .int .u64 (l1 r : Int), .int .u64 (l2 r : Int), .int .u64 (l3 r : Int)]] w (Ret (.int .i64 0) w)) := fun w => c_sign fr (by rw [h0]; simp) w
     have kI : Hid (∀ w, Calls Try.prog 91 #[.agg #[.bool (sg n), .int .u64 (l0 n : Int), .int .u64 (l1 n : Int), .int .u64 (l2 n : Int), .int .u64 (l3 n : Int)]] w (Ret (.agg #[.bool (sg n), .int .u64 (l0 n : Int), .int .u64 (l1 n : Int), .int .u64 (l2 n : Int), .int .u64 (l3 n : Int), .bool (sg 1), .int .u64 (l0 1 : Int), .int .u64 (l1 1 : Int), .int .u64 (l2 1 : Int), .int .u64 (l3 1 : Int)]) w)) := fun w => s_integer fq w
     clear hq hr hp ht q0 qa r0 rb t0 td pc fa fb fc fd fq fr fp ft BS n0 m0 hk ha hb hd hle sa sb sc sd B h0
     obtain ⟨W0, hW0⟩ : ∃ W0, W0 = (((w.alloc (.cells #[.bool (sg a), .int .u64 (l0 a : Int), .int .u64 (l1 a : Int), .int .u64 (l2 a : Int), .int .u64 (l3 a : Int), .bool (sg b), .int .u64 (l0 b : Int), .int .u64 (l1 b : Int), .int .u64 (l2 b : Int), .int .u64 (l3 b : Int)] 40)).alloc (.cells #[.bool (sg c), .int .u64 (l0 c : Int), .int .u64 (l1 c : Int), .int .u64 (l2 c : Int), .int .u64 (l3 c : Int), .bool (sg d), .int .u64 (l0 d : Int), .int .u64 (l1 d : Int), .int .u64 (l2 d : Int), .int .u64 (l3 d : Int)] 40)).alloc (.cells #[.bool false, .int .u64 0, .int .u64 0, .int .u64 0, .int .u64 0, .bool false, .int .u64 0, .int .u64 0, .int .u64 0, .int .u64 0] 40)) := ⟨_, rfl⟩
     have H2 := three_boxes w (.cells #[.bool (sg a), .int .u64 (l0 a : Int), .int .u64 (l1 a : Int), .int .u64 (l2 a : Int), .int .u64 (l3 a : Int), .bool (sg b), .int .u64 (l0 b : Int), .int .u64 (l1 b : Int), .int .u64 (l2 b : Int), .int .u64 (l3 b : Int)] 40) (.cells #[.bool (sg c), .int .u64 (l0 c : Int), .int .u64 (l1 c : Int), .int .u64 (l2 c : Int), .int .u64 (l3 c : Int), .bool (sg d), .int .u64 (l0 d : Int), .int .u64 (l1 d : Int), .int .u64 (l2 d : Int), .int .u64 (l3 d : Int)] 40) (.cells #[.bool false, .int .u64 0, .int .u64 0, .int .u64 0, .int .u64 0, .bool false, .int .u64 0, .int .u64 0, .int .u64 0, .int .u64 0] 40)
     have EE0 : Ext w W0 := by rw [hW0]; exact (((ext_alloc _ _).trans (ext_alloc _ _)).trans (ext_alloc _ _))
     rw [← hW0] at H2
     have EE := hide EE0
     have HW := hide hW0
     obtain ⟨P2, P3, P4⟩ : Box10 W0 (w.heap.size) (sg a) (l0 a) (l1 a) (l2 a) (l3 a) (sg b) (l0 b) (l1 b) (l2 b) (l3 b) ∧ Box10 W0 ((w.heap.size + 1)) (sg c) (l0 c) (l1 c) (l2 c) (l3 c) (sg d) (l0 d) (l1 d) (l2 d) (l3 d) ∧ Box10 W0 ((w.heap.size + 1 + 1)) false 0 0 0 0 false 0 0 0 0 := H2
     clear hW0 EE0
     go_enter Try.func74, Try.ntmps74
     go_upto_region 1 with fail
     rw [← HW.out]
     clear HW
     have hg0 : w.heap.size ≤ w.heap.size := Nat.le_refl _
     obtain ⟨g0, hg⟩ : ∃ g, w.heap.size = g := ⟨_, rfl⟩
     rw [hg] at P2 P3 P4 ⊢
     replace hg0 : w.heap.size ≤ g0 := Nat.le_of_eq hg
     clear hg
     obtain ⟨xP20, xP21, xP22, xP23, xP24, xP25, xP26, xP27, xP28, xP29, -⟩ := ten_cells P2
     go_upto_region 2 with (go_at_call 72; (with_reducible refine (kD.out _).mono ?_); rintro e w1 ⟨rfl, hE⟩; clear xP20 xP21 xP22 xP23 xP24 xP25 xP26 xP27 xP28 xP29; have P2 := P2.ext hE; have P3 := P3.ext hE; have P4 := P4.ext hE; have EE := hide (EE.out.trans hE); clear hE; obtain ⟨xP20, xP21, xP22, xP23, xP24, xP25, xP26, xP27, xP28, xP29, -⟩ := ten_cells P2)
     clear xP20 xP21 xP22 xP23 xP24 xP25 xP26 xP27 xP28 xP29
     have H2 := two_blocks w1 (.cells #[.bool (sg n), .int .u64 (l0 n : Int), .int .u64 (l1 n : Int), .int .u64 (l2 n : Int), .int .u64 (l3 n : Int)] 25) (.cells #[.bool (sg r), .int .u64 (l0 r : Int), .int .u64 (l1 r : Int), .int .u64 (l2 r : Int), .int .u64 (l3 r : Int)] 25)
     have lP2 := P2.lt
     have lP3 := P3.lt
     have lP4 := P4.lt
     have hE := ((ext_alloc w1 (.cells #[.bool (sg n), .int .u64 (l0 n : Int), .int .u64 (l1 n : Int), .int .u64 (l2 n : Int), .int .u64 (l3 n : Int)] 25)).trans (ext_alloc _ (.cells #[.bool (sg r), .int .u64 (l0 r : Int), .int .u64 (l1 r : Int), .int .u64 (l2 r : Int), .int .u64 (l3 r : Int)] 25)))
     have P2 := P2.ext hE
     have P3 := P3.ext hE
     have P4 := P4.ext hE
     have EE := hide (EE.out.trans hE)
     clear hE
     obtain ⟨W2, hW⟩ : ∃ W, W = ((w1.alloc (.cells #[.bool (sg n), .int .u64 (l0 n : Int), .int .u64 (l1 n : Int), .int .u64 (l2 n : Int), .int .u64 (l3 n : Int)] 25)).alloc (.cells #[.bool (sg r), .int .u64 (l0 r : Int), .int .u64 (l1 r : Int), .int .u64 (l2 r : Int), .int .u64 (l3 r : Int)] 25)) := ⟨_, rfl⟩
     rw [← hW] at H2 EE P2 P3 P4 ⊢
     obtain ⟨g3, hg⟩ : ∃ g, w1.heap.size = g := ⟨_, rfl⟩
     rw [hg] at H2 lP2 lP3 lP4 ⊢
     obtain ⟨P5, P6⟩ : Box W2 g3 (sg n) (l0 n) (l1 n) (l2 n) (l3 n) ∧ Box W2 (g3 + 1) (sg r) (l0 r) (l1 r) (l2 r) (l3 r) := H2
     clear hW hg
     have ngP2P5 : g0 ≠ g3 := by omega
     have ngP2P6 : g0 ≠ g3 + 1 := by omega
     have ngP3P5 : g0 + 1 ≠ g3 := by omega
     have ngP3P6 : g0 + 1 ≠ g3 + 1 := by omega
     have ngP4P5 : g0 + 1 + 1 ≠ g3 := by omega
     have ngP4P6 : g0 + 1 + 1 ≠ g3 + 1 := by omega
     obtain ⟨xP60, xP61, xP62, xP63, xP64, -⟩ := five_cells P6
     go_upto_region 3 with (go_at_call 70; (with_reducible refine (kS.out _).mono ?_); rintro e w4 ⟨rfl, hE⟩; clear xP60 xP61 xP62 xP63 xP64; have P2 := P2.ext hE; have P3 := P3.ext hE; have P4 := P4.ext hE; have P5 := P5.ext hE; have P6 := P6.ext hE; have EE := hide (EE.out.trans hE); clear hE; obtain ⟨xP60, xP61, xP62, xP63, xP64, -⟩ := five_cells P6)
     clear xP60 xP61 xP62 xP63 xP64
     obtain ⟨xP50, xP51, xP52, xP53, xP54, -⟩ := five_cells P5; obtain ⟨xP40, xP41, xP42, xP43, xP44, xP45, xP46, xP47, xP48, xP49, xP4f0, xP4f1, xP4f2, xP4f3, xP4f4, xP4f5, xP4f6, xP4f7, xP4f8, xP4f9⟩ := ten_cells P4
     go_wp2_with (first
       | (go_at_call 91; (with_reducible refine (kI.out _).mono ?_); rintro e w5 ⟨rfl, hE⟩; clear xP50 xP51 xP52 xP53 xP54; clear xP40 xP41 xP42 xP43 xP44 xP45 xP46 xP47 xP48 xP49 xP4f0 xP4f1 xP4f2 xP4f3 xP4f4 xP4f5 xP4f6 xP4f7 xP4f8 xP4f9; have P2 := P2.ext hE; have P3 := P3.ext hE; have P4 := P4.ext hE; have P5 := P5.ext hE; have P6 := P6.ext hE; have EE := hide (EE.out.trans hE); clear hE; obtain ⟨xP50, xP51, xP52, xP53, xP54, -⟩ := five_cells P5; obtain ⟨xP40, xP41, xP42, xP43, xP44, xP45, xP46, xP47, xP48, xP49, xP4f0, xP4f1, xP4f2, xP4f3, xP4f4, xP4f5, xP4f6, xP4f7, xP4f8, xP4f9⟩ := ten_cells P4))
     exact bodyPost_ret (v := .agg #[.bool (sg n), .int .u64 (l0 n : Int), .int .u64 (l1 n : Int), .int .u64 (l2 n : Int), .int .u64 (l3 n : Int), .bool (sg 1), .int .u64 (l0 1 : Int), .int .u64 (l1 1 : Int), .int .u64 (l2 1 : Int), .int .u64 (l3 1 : Int)]) (by simp [results, Try.results74, go_sem, xP40, xP41, xP42, xP43, xP44, xP45, xP46, xP47, xP48, xP49]) rfl ⟨rfl, ext_ten EE.out (by omega) _ _ _ _ _ _ _ _ _ _⟩
   · have hr0 : a % b ≠ 0 := by rw [hr]; exact h0
     have kS : Hid (∀ w, Calls Try.prog 70 #[.agg #[.bool (sg r), .int .u64 (l0 r : Int), .int .u64 (l1 r : Int), .int .u64 (l2 r : Int), .int .u64 (l3 r : Int)]] w (Ret (.int .i64 1) w)) := fun w => c_sign fr (Int.sign_eq_one_of_pos (by omega)) w
     have kE : Hid (∀ w, Calls Try.prog 72 #[.agg #[.bool (sg c), .int .u64 (l0 c : Int), .int .u64 (l1 c : Int), .int .u64 (l2 c : Int), .int .u64 (l3 c : Int)], .agg #[.bool (sg d), .int .u64 (l0 d : Int), .int .u64 (l1 d : Int), .int .u64 (l2 d : Int), .int .u64 (l3 d : Int)]] w (Ret (.tuple #[.agg #[.bool (sg p), .int .u64 (l0 p : Int), .int .u64 (l1 p : Int), .int .u64 (l2 p : Int), .int .u64 (l3 p : Int)], .agg #[.bool (sg t), .int .u64 (l0 t : Int), .int .u64 (l1 t : Int), .int .u64 (l2 t : Int), .int .u64 (l3 t : Int)], .bool true]) w)) := fun w => c_div fc fd (by omega) hp ht w
     by_cases h1 : q = p
     · have hqp : a / b = c / d := by rw [hq, hp]; exact h1
       obtain ⟨z1, z2, t1, z3, hl⟩ := rest_ways ha hb hd hle hr0 hqp
       rw [hr, ht] at hl
       rw [ht] at t1
       obtain ⟨n', m', B'⟩ := best_some (a := d) (b := t) (c := b) (d := r) t1 (by omega) hl
       have BS' := (B'.small t1 (by omega) hl).1
       have n'0 := B'.pos hd t1
       have m'0 := B'.1
       obtain ⟨en, em⟩ := Best.unique hb hd B (best_rec ha hb hd hr0 (by rw [ht]; exact t1) hqp (by rw [hr, ht]; exact B'))
       rw [hq] at en
       subst em h1
       obtain ⟨v, hv⟩ : ∃ v, q * m = v := ⟨_, rfl⟩
       rw [hv] at en
       have v0 : 0 ≤ v := by rw [← hv]; exact Int.mul_nonneg q0 (by omega)
       have fv : F256 v := f256_of (by omega)
       have fm : F256 m := f256_of (by omega)
       have fm' : F256 m' := f256_of (by omega)
       have fn : F256 n := f256_of (by omega)
       have kR : Hid (∀ w, Calls Try.prog 74 #[.agg #[.bool (sg d), .int .u64 (l0 d : Int), .int .u64 (l1 d : Int), .int .u64 (l2 d : Int), .int .u64 (l3 d : Int), .bool (sg t), .int .u64 (l0 t : Int), .int .u64 (l1 t : Int), .int .u64 (l2 t : Int), .int .u64 (l3 t : Int)], .agg #[.bool (sg b), .int .u64 (l0 b : Int), .int .u64 (l1 b : Int), .int .u64 (l2 b : Int), .int .u64 (l3 b : Int), .bool (sg r), .int .u64 (l0 r : Int), .int .u64 (l1 r : Int), .int .u64 (l2 r : Int), .int .u64 (l3 r : Int)]] w (Ret (.agg #[.bool (sg m), .int .u64 (l0 m : Int), .int .u64 (l1 m : Int), .int .u64 (l2 m : Int), .int .u64 (l3 m : Int), .bool (sg m'), .int .u64 (l0 m' : Int), .int .u64 (l1 m' : Int), .int .u64 (l2 m' : Int), .int .u64 (l3 m' : Int)]) w)) := fun w => s_bp k d t b r m m' (by omega) hd t1 (by omega) hl sd (by omega) sb (by omega) B' w
       have kM : Hid (∀ w, Calls Try.prog 81 #[.agg #[.bool (sg q), .int .u64 (l0 q : Int), .int .u64 (l1 q : Int), .int .u64 (l2 q : Int), .int .u64 (l3 q : Int)], .agg #[.bool (sg m), .int .u64 (l0 m : Int), .int .u64 (l1 m : Int), .int .u64 (l2 m : Int), .int .u64 (l3 m : Int)]] w (Ret (.tuple #[.agg #[.bool (sg v), .int .u64 (l0 v : Int), .int .u64 (l1 v : Int), .int .u64 (l2 v : Int), .int .u64 (l3 v : Int)], .bool true]) w)) := fun w => c_mul fq fm hv fv w
       have kA : Hid (∀ w, Calls Try.prog 40 #[.agg #[.bool (sg v), .int .u64 (l0 v : Int), .int .u64 (l1 v : Int), .int .u64 (l2 v : Int), .int .u64 (l3 v : Int)], .agg #[.bool (sg m'), .int .u64 (l0 m' : Int), .int .u64 (l1 m' : Int), .int .u64 (l2 m' : Int), .int .u64 (l3 m' : Int)]] w (Ret (.tuple #[.agg #[.bool (sg n), .int .u64 (l0 n : Int), .int .u64 (l1 n : Int), .int .u64 (l2 n : Int), .int .u64 (l3 n : Int)], .bool true]) w)) := fun w => c_add fv fm' en.symm fn w
       have qe := neWs q
       clear hq hr hp ht q0 qa r0 rb t0 td pc fa fb fc fd fq fr fp ft BS n0 m0 hk ha hb hd hle sa sb sc sd B z1 z2 z3 hr0 h0 hqp t1 hl B' BS' n'0 m'0 en hv v0 fv fm fm' fn
       obtain ⟨W0, hW0⟩ : ∃ W0, W0 = (((w.alloc (.cells #[.bool (sg a), .int .u64 (l0 a : Int), .int .u64 (l1 a : Int), .int .u64 (l2 a : Int), .int .u64 (l3 a : Int), .bool (sg b), .int .u64 (l0 b : Int), .int .u64 (l1 b : Int), .int .u64 (l2 b : Int), .int .u64 (l3 b : Int)] 40)).alloc (.cells #[.bool (sg c), .int .u64 (l0 c : Int), .int .u64 (l1 c : Int), .int .u64 (l2 c : Int), .int .u64 (l3 c : Int), .bool (sg d), .int .u64 (l0 d : Int), .int .u64 (l1 d : Int), .int .u64 (l2 d : Int), .int .u64 (l3 d : Int)] 40)).alloc (.cells #[.bool false, .int .u64 0, .int .u64 0, .int .u64 0, .int .u64 0, .bool false, .int .u64 0, .int .u64 0, .int .u64 0, .int .u64 0] 40)) := ⟨_, rfl⟩
       have H2 := three_boxes w (.cells #[.bool (sg a), .int .u64 (l0 a : Int), .int .u64 (l1 a : Int), .int .u64 (l2 a : Int), .int .u64 (l3 a : Int), .bool (sg b), .int .u64 (l0 b : Int), .int .u64 (l1 b : Int), .int .u64 (l2 b : Int), .int .u64 (l3 b : Int)] 40) (.cells #[.bool (sg c), .int .u64 (l0 c : Int), .int .u64 (l1 c : Int), .int .u64 (l2 c : Int), .int .u64 (l3 c : Int), .bool (sg d), .int .u64 (l0 d : Int), .int .u64 (l1 d : Int), .int .u64 (l2 d : Int), .int .u64 (l3 d : Int)] 40) (.cells #[.bool false, .int .u64 0, .int .u64 0, .int .u64 0, .int .u64 0, .bool false, .int .u64 0, .int .u64 0, .int .u64 0, .int .u64 0] 40)
       have EE0 : Ext w W0 := by rw [hW0]; exact (((ext_alloc _ _).trans (ext_alloc _ _)).trans (ext_alloc _ _))
       rw [← hW0] at H2
       have EE := hide EE0
       have HW := hide hW0
       obtain ⟨P2, P3, P4⟩ : Box10 W0 (w.heap.size) (sg a) (l0 a) (l1 a) (l2 a) (l3 a) (sg b) (l0 b) (l1 b) (l2 b) (l3 b) ∧ Box10 W0 ((w.heap.size + 1)) (sg c) (l0 c) (l1 c) (l2 c) (l3 c) (sg d) (l0 d) (l1 d) (l2 d) (l3 d) ∧ Box10 W0 ((w.heap.size + 1 + 1)) false 0 0 0 0 false 0 0 0 0 := H2
       clear hW0 EE0
       go_enter Try.func74, Try.ntmps74
       go_upto_region 1 with fail
       rw [← HW.out]
       clear HW
       have hg0 : w.heap.size ≤ w.heap.size := Nat.le_refl _
       obtain ⟨g0, hg⟩ : ∃ g, w.heap.size = g := ⟨_, rfl⟩
       rw [hg] at P2 P3 P4 ⊢
       replace hg0 : w.heap.size ≤ g0 := Nat.le_of_eq hg
       clear hg
       obtain ⟨xP20, xP21, xP22, xP23, xP24, xP25, xP26, xP27, xP28, xP29, -⟩ := ten_cells P2
       go_upto_region 2 with (go_at_call 72; (with_reducible refine (kD.out _).mono ?_); rintro e w1 ⟨rfl, hE⟩; clear xP20 xP21 xP22 xP23 xP24 xP25 xP26 xP27 xP28 xP29; have P2 := P2.ext hE; have P3 := P3.ext hE; have P4 := P4.ext hE; have EE := hide (EE.out.trans hE); clear hE; obtain ⟨xP20, xP21, xP22, xP23, xP24, xP25, xP26, xP27, xP28, xP29, -⟩ := ten_cells P2)
       clear xP20 xP21 xP22 xP23 xP24 xP25 xP26 xP27 xP28 xP29
       have H2 := two_blocks w1 (.cells #[.bool (sg q), .int .u64 (l0 q : Int), .int .u64 (l1 q : Int), .int .u64 (l2 q : Int), .int .u64 (l3 q : Int)] 25) (.cells #[.bool (sg r), .int .u64 (l0 r : Int), .int .u64 (l1 r : Int), .int .u64 (l2 r : Int), .int .u64 (l3 r : Int)] 25)
       have lP2 := P2.lt
       have lP3 := P3.lt
       have lP4 := P4.lt
       have hE := ((ext_alloc w1 (.cells #[.bool (sg q), .int .u64 (l0 q : Int), .int .u64 (l1 q : Int), .int .u64 (l2 q : Int), .int .u64 (l3 q : Int)] 25)).trans (ext_alloc _ (.cells #[.bool (sg r), .int .u64 (l0 r : Int), .int .u64 (l1 r : Int), .int .u64 (l2 r : Int), .int .u64 (l3 r : Int)] 25)))
       have P2 := P2.ext hE
       have P3 := P3.ext hE
       have P4 := P4.ext hE
       have EE := hide (EE.out.trans hE)
       clear hE
       obtain ⟨W2, hW⟩ : ∃ W, W = ((w1.alloc (.cells #[.bool (sg q), .int .u64 (l0 q : Int), .int .u64 (l1 q : Int), .int .u64 (l2 q : Int), .int .u64 (l3 q : Int)] 25)).alloc (.cells #[.bool (sg r), .int .u64 (l0 r : Int), .int .u64 (l1 r : Int), .int .u64 (l2 r : Int), .int .u64 (l3 r : Int)] 25)) := ⟨_, rfl⟩
       rw [← hW] at H2 EE P2 P3 P4 ⊢
       obtain ⟨g3, hg⟩ : ∃ g, w1.heap.size = g := ⟨_, rfl⟩
       rw [hg] at H2 lP2 lP3 lP4 ⊢
       obtain ⟨P5, P6⟩ : Box W2 g3 (sg q) (l0 q) (l1 q) (l2 q) (l3 q) ∧ Box W2 (g3 + 1) (sg r) (l0 r) (l1 r) (l2 r) (l3 r) := H2
       clear hW hg
       have ngP2P5 : g0 ≠ g3 := by omega
       have ngP2P6 : g0 ≠ g3 + 1 := by omega
       have ngP3P5 : g0 + 1 ≠ g3 := by omega
       have ngP3P6 : g0 + 1 ≠ g3 + 1 := by omega
       have ngP4P5 : g0 + 1 + 1 ≠ g3 := by omega
       have ngP4P6 : g0 + 1 + 1 ≠ g3 + 1 := by omega
       obtain ⟨xP60, xP61, xP62, xP63, xP64, -⟩ := five_cells P6
       go_upto_region 4 with (go_at_call 70; (with_reducible refine (kS.out _).mono ?_); rintro e w4 ⟨rfl, hE⟩; clear xP60 xP61 xP62 xP63 xP64; have P2 := P2.ext hE; have P3 := P3.ext hE; have P4 := P4.ext hE; have P5 := P5.ext hE; have P6 := P6.ext hE; have EE := hide (EE.out.trans hE); clear hE; obtain ⟨xP60, xP61, xP62, xP63, xP64, -⟩ := five_cells P6)
       clear xP60 xP61 xP62 xP63 xP64
       obtain ⟨xP30, xP31, xP32, xP33, xP34, xP35, xP36, xP37, xP38, xP39, -⟩ := ten_cells P3
       go_upto_region 5 with (go_at_call 72; (with_reducible refine (kE.out _).mono ?_); rintro e w5 ⟨rfl, hE⟩; clear xP30 xP31 xP32 xP33 xP34 xP35 xP36 xP37 xP38 xP39; have P2 := P2.ext hE; have P3 := P3.ext hE; have P4 := P4.ext hE; have P5 := P5.ext hE; have P6 := P6.ext hE; have EE := hide (EE.out.trans hE); clear hE; obtain ⟨xP30, xP31, xP32, xP33, xP34, xP35, xP36, xP37, xP38, xP39, -⟩ := ten_cells P3)
       clear xP30 xP31 xP32 xP33 xP34 xP35 xP36 xP37 xP38 xP39
       have H2 := two_blocks w5 (.cells #[.bool (sg q), .int .u64 (l0 q : Int), .int .u64 (l1 q : Int), .int .u64 (l2 q : Int), .int .u64 (l3 q : Int)] 25) (.cells #[.bool (sg t), .int .u64 (l0 t : Int), .int .u64 (l1 t : Int), .int .u64 (l2 t : Int), .int .u64 (l3 t : Int)] 25)
       have lP2 := P2.lt
       have lP3 := P3.lt
       have lP4 := P4.lt
       have lP5 := P5.lt
       have lP6 := P6.lt
       have hE := ((ext_alloc w5 (.cells #[.bool (sg q), .int .u64 (l0 q : Int), .int .u64 (l1 q : Int), .int .u64 (l2 q : Int), .int .u64 (l3 q : Int)] 25)).trans (ext_alloc _ (.cells #[.bool (sg t), .int .u64 (l0 t : Int), .int .u64 (l1 t : Int), .int .u64 (l2 t : Int), .int .u64 (l3 t : Int)] 25)))
       have P2 := P2.ext hE
       have P3 := P3.ext hE
       have P4 := P4.ext hE
       have P5 := P5.ext hE
       have P6 := P6.ext hE
       have EE := hide (EE.out.trans hE)
       clear hE
       obtain ⟨W6, hW⟩ : ∃ W, W = ((w5.alloc (.cells #[.bool (sg q), .int .u64 (l0 q : Int), .int .u64 (l1 q : Int), .int .u64 (l2 q : Int), .int .u64 (l3 q : Int)] 25)).alloc (.cells #[.bool (sg t), .int .u64 (l0 t : Int), .int .u64 (l1 t : Int), .int .u64 (l2 t : Int), .int .u64 (l3 t : Int)] 25)) := ⟨_, rfl⟩
       rw [← hW] at H2 EE P2 P3 P4 P5 P6 ⊢
       obtain ⟨g7, hg⟩ : ∃ g, w5.heap.size = g := ⟨_, rfl⟩
       rw [hg] at H2 lP2 lP3 lP4 lP5 lP6 ⊢
       obtain ⟨P8, P9⟩ : Box W6 g7 (sg q) (l0 q) (l1 q) (l2 q) (l3 q) ∧ Box W6 (g7 + 1) (sg t) (l0 t) (l1 t) (l2 t) (l3 t) := H2
       clear hW hg
       have ngP2P8 : g0 ≠ g7 := by omega
       have ngP2P9 : g0 ≠ g7 + 1 := by omega
       have ngP3P8 : g0 + 1 ≠ g7 := by omega
       have ngP3P9 : g0 + 1 ≠ g7 + 1 := by omega
       have ngP4P8 : g0 + 1 + 1 ≠ g7 := by omega
       have ngP4P9 : g0 + 1 + 1 ≠ g7 + 1 := by omega
       have ngP5P8 : g3 ≠ g7 := by omega
       have ngP5P9 : g3 ≠ g7 + 1 := by omega
       have ngP6P8 : g3 + 1 ≠ g7 := by omega
       have ngP6P9 : g3 + 1 ≠ g7 + 1 := by omega
       obtain ⟨xP50, xP51, xP52, xP53, xP54, -⟩ := five_cells P5; obtain ⟨xP80, xP81, xP82, xP83, xP84, -⟩ := five_cells P8
       go_upto_region 8 with fail
       clear xP50 xP51 xP52 xP53 xP54 xP80 xP81 xP82 xP83 xP84
       obtain ⟨xP20, xP21, xP22, xP23, xP24, xP25, xP26, xP27, xP28, xP29, -⟩ := ten_cells P2; obtain ⟨xP30, xP31, xP32, xP33, xP34, xP35, xP36, xP37, xP38, xP39, -⟩ := ten_cells P3; obtain ⟨xP60, xP61, xP62, xP63, xP64, -⟩ := five_cells P6; obtain ⟨xP90, xP91, xP92, xP93, xP94, -⟩ := five_cells P9
       go_upto_region 9 with (go_at_call 74; (with_reducible refine (kR.out _).mono ?_); rintro e w8 ⟨rfl, hE⟩; clear xP20 xP21 xP22 xP23 xP24 xP25 xP26 xP27 xP28 xP29 xP30 xP31 xP32 xP33 xP34 xP35 xP36 xP37 xP38 xP39 xP60 xP61 xP62 xP63 xP64 xP90 xP91 xP92 xP93 xP94; have P2 := P2.ext hE; have P3 := P3.ext hE; have P4 := P4.ext hE; have P5 := P5.ext hE; have P6 := P6.ext hE; have P8 := P8.ext hE; have P9 := P9.ext hE; have EE := hide (EE.out.trans hE); clear hE; obtain ⟨xP20, xP21, xP22, xP23, xP24, xP25, xP26, xP27, xP28, xP29, -⟩ := ten_cells P2; obtain ⟨xP30, xP31, xP32, xP33, xP34, xP35, xP36, xP37, xP38, xP39, -⟩ := ten_cells P3; obtain ⟨xP60, xP61, xP62, xP63, xP64, -⟩ := five_cells P6; obtain ⟨xP90, xP91, xP92, xP93, xP94, -⟩ := five_cells P9)
       clear xP20 xP21 xP22 xP23 xP24 xP25 xP26 xP27 xP28 xP29 xP30 xP31 xP32 xP33 xP34 xP35 xP36 xP37 xP38 xP39 xP60 xP61 xP62 xP63 xP64 xP90 xP91 xP92 xP93 xP94
       have H2 := heap_alloc_new w8 (.cells #[.bool (sg m), .int .u64 (l0 m : Int), .int .u64 (l1 m : Int), .int .u64 (l2 m : Int), .int .u64 (l3 m : Int), .bool (sg m'), .int .u64 (l0 m' : Int), .int .u64 (l1 m' : Int), .int .u64 (l2 m' : Int), .int .u64 (l3 m' : Int)] 40)
       have lP2 := P2.lt
       have lP3 := P3.lt
       have lP4 := P4.lt
       have lP5 := P5.lt
       have lP6 := P6.lt
       have lP8 := P8.lt
       have lP9 := P9.lt
       have hE := (ext_alloc w8 (.cells #[.bool (sg m), .int .u64 (l0 m : Int), .int .u64 (l1 m : Int), .int .u64 (l2 m : Int), .int .u64 (l3 m : Int), .bool (sg m'), .int .u64 (l0 m' : Int), .int .u64 (l1 m' : Int), .int .u64 (l2 m' : Int), .int .u64 (l3 m' : Int)] 40))
       have P2 := P2.ext hE
       have P3 := P3.ext hE
       have P4 := P4.ext hE
       have P5 := P5.ext hE
       have P6 := P6.ext hE
       have P8 := P8.ext hE
       have P9 := P9.ext hE
       have EE := hide (EE.out.trans hE)
       clear hE
       obtain ⟨W9, hW⟩ : ∃ W, W = (w8.alloc (.cells #[.bool (sg m), .int .u64 (l0 m : Int), .int .u64 (l1 m : Int), .int .u64 (l2 m : Int), .int .u64 (l3 m : Int), .bool (sg m'), .int .u64 (l0 m' : Int), .int .u64 (l1 m' : Int), .int .u64 (l2 m' : Int), .int .u64 (l3 m' : Int)] 40)) := ⟨_, rfl⟩
       rw [← hW] at H2 EE P2 P3 P4 P5 P6 P8 P9 ⊢
       obtain ⟨g10, hg⟩ : ∃ g, w8.heap.size = g := ⟨_, rfl⟩
       rw [hg] at H2 lP2 lP3 lP4 lP5 lP6 lP8 lP9 ⊢
       have P13 : Box10 W9 g10 (sg m) (l0 m) (l1 m) (l2 m) (l3 m) (sg m') (l0 m') (l1 m') (l2 m') (l3 m') := H2
       clear hW hg
       have ngP2P13 : g0 ≠ g10 := by omega
       have ngP3P13 : g0 + 1 ≠ g10 := by omega
       have ngP4P13 : g0 + 1 + 1 ≠ g10 := by omega
       have ngP5P13 : g3 ≠ g10 := by omega
       have ngP6P13 : g3 + 1 ≠ g10 := by omega
       have ngP8P13 : g7 ≠ g10 := by omega
       have ngP9P13 : g7 + 1 ≠ g10 := by omega
       obtain ⟨xP50, xP51, xP52, xP53, xP54, -⟩ := five_cells P5; obtain ⟨xP130, xP131, xP132, xP133, xP134, xP135, xP136, xP137, xP138, xP139, -⟩ := ten_cells P13
       go_upto_region 10 with (go_at_call 81; (with_reducible refine (kM.out _).mono ?_); rintro e w11 ⟨rfl, hE⟩; clear xP50 xP51 xP52 xP53 xP54 xP130 xP131 xP132 xP133 xP134 xP135 xP136 xP137 xP138 xP139; have P2 := P2.ext hE; have P3 := P3.ext hE; have P4 := P4.ext hE; have P5 := P5.ext hE; have P6 := P6.ext hE; have P8 := P8.ext hE; have P9 := P9.ext hE; have P13 := P13.ext hE; have EE := hide (EE.out.trans hE); clear hE; obtain ⟨xP50, xP51, xP52, xP53, xP54, -⟩ := five_cells P5; obtain ⟨xP130, xP131, xP132, xP133, xP134, xP135, xP136, xP137, xP138, xP139, -⟩ := ten_cells P13)
       clear xP50 xP51 xP52 xP53 xP54 xP130 xP131 xP132 xP133 xP134 xP135 xP136 xP137 xP138 xP139
       have H2 := heap_alloc_new w11 (.cells #[.bool (sg v), .int .u64 (l0 v : Int), .int .u64 (l1 v : Int), .int .u64 (l2 v : Int), .int .u64 (l3 v : Int)] 25)
       have lP2 := P2.lt
       have lP3 := P3.lt
       have lP4 := P4.lt
       have lP5 := P5.lt
       have lP6 := P6.lt
       have lP8 := P8.lt
       have lP9 := P9.lt
       have lP13 := P13.lt
       have hE := (ext_alloc w11 (.cells #[.bool (sg v), .int .u64 (l0 v : Int), .int .u64 (l1 v : Int), .int .u64 (l2 v : Int), .int .u64 (l3 v : Int)] 25))
       have P2 := P2.ext hE
       have P3 := P3.ext hE
       have P4 := P4.ext hE
       have P5 := P5.ext hE
       have P6 := P6.ext hE
       have P8 := P8.ext hE
       have P9 := P9.ext hE
       have P13 := P13.ext hE
       have EE := hide (EE.out.trans hE)
       clear hE
       obtain ⟨W12, hW⟩ : ∃ W, W = (w11.alloc (.cells #[.bool (sg v), .int .u64 (l0 v : Int), .int .u64 (l1 v : Int), .int .u64 (l2 v : Int), .int .u64 (l3 v : Int)] 25)) := ⟨_, rfl⟩
       rw [← hW] at H2 EE P2 P3 P4 P5 P6 P8 P9 P13 ⊢
       obtain ⟨g13, hg⟩ : ∃ g, w11.heap.size = g := ⟨_, rfl⟩
       rw [hg] at H2 lP2 lP3 lP4 lP5 lP6 lP8 lP9 lP13 ⊢
       have P14 : Box W12 g13 (sg v) (l0 v) (l1 v) (l2 v) (l3 v) := H2
       clear hW hg
       have ngP2P14 : g0 ≠ g13 := by omega
       have ngP3P14 : g0 + 1 ≠ g13 := by omega
       have ngP4P14 : g0 + 1 + 1 ≠ g13 := by omega
       have ngP5P14 : g3 ≠ g13 := by omega
       have ngP6P14 : g3 + 1 ≠ g13 := by omega
       have ngP8P14 : g7 ≠ g13 := by omega
       have ngP9P14 : g7 + 1 ≠ g13 := by omega
       have ngP13P14 : g10 ≠ g13 := by omega
       obtain ⟨xP130, xP131, xP132, xP133, xP134, xP135, xP136, xP137, xP138, xP139, -⟩ := ten_cells P13; obtain ⟨xP140, xP141, xP142, xP143, xP144, -⟩ := five_cells P14
       go_upto_region 11 with (go_at_call 40; (with_reducible refine (kA.out _).mono ?_); rintro e w14 ⟨rfl, hE⟩; clear xP130 xP131 xP132 xP133 xP134 xP135 xP136 xP137 xP138 xP139 xP140 xP141 xP142 xP143 xP144; have P2 := P2.ext hE; have P3 := P3.ext hE; have P4 := P4.ext hE; have P5 := P5.ext hE; have P6 := P6.ext hE; have P8 := P8.ext hE; have P9 := P9.ext hE; have P13 := P13.ext hE; have P14 := P14.ext hE; have EE := hide (EE.out.trans hE); clear hE; obtain ⟨xP130, xP131, xP132, xP133, xP134, xP135, xP136, xP137, xP138, xP139, -⟩ := ten_cells P13; obtain ⟨xP140, xP141, xP142, xP143, xP144, -⟩ := five_cells P14)
       clear xP130 xP131 xP132 xP133 xP134 xP135 xP136 xP137 xP138 xP139 xP140 xP141 xP142 xP143 xP144
       have H2 := heap_alloc_new w14 (.cells #[.bool (sg n), .int .u64 (l0 n : Int), .int .u64 (l1 n : Int), .int .u64 (l2 n : Int), .int .u64 (l3 n : Int)] 25)
       have lP2 := P2.lt
       have lP3 := P3.lt
       have lP4 := P4.lt
       have lP5 := P5.lt
       have lP6 := P6.lt
       have lP8 := P8.lt
       have lP9 := P9.lt
       have lP13 := P13.lt
       have lP14 := P14.lt
       have hE := (ext_alloc w14 (.cells #[.bool (sg n), .int .u64 (l0 n : Int), .int .u64 (l1 n : Int), .int .u64 (l2 n : Int), .int .u64 (l3 n : Int)] 25))
       have P2 := P2.ext hE
       have P3 := P3.ext hE
       have P4 := P4.ext hE
       have P5 := P5.ext hE
       have P6 := P6.ext hE
       have P8 := P8.ext hE
       have P9 := P9.ext hE
       have P13 := P13.ext hE
       have P14 := P14.ext hE
       have EE := hide (EE.out.trans hE)
       clear hE
       obtain ⟨W15, hW⟩ : ∃ W, W = (w14.alloc (.cells #[.bool (sg n), .int .u64 (l0 n : Int), .int .u64 (l1 n : Int), .int .u64 (l2 n : Int), .int .u64 (l3 n : Int)] 25)) := ⟨_, rfl⟩
       rw [← hW] at H2 EE P2 P3 P4 P5 P6 P8 P9 P13 P14 ⊢
       obtain ⟨g16, hg⟩ : ∃ g, w14.heap.size = g := ⟨_, rfl⟩
       rw [hg] at H2 lP2 lP3 lP4 lP5 lP6 lP8 lP9 lP13 lP14 ⊢
       have P16 : Box W15 g16 (sg n) (l0 n) (l1 n) (l2 n) (l3 n) := H2
       clear hW hg
       have ngP2P16 : g0 ≠ g16 := by omega
       have ngP3P16 : g0 + 1 ≠ g16 := by omega
       have ngP4P16 : g0 + 1 + 1 ≠ g16 := by omega
       have ngP5P16 : g3 ≠ g16 := by omega
       have ngP6P16 : g3 + 1 ≠ g16 := by omega
       have ngP8P16 : g7 ≠ g16 := by omega
       have ngP9P16 : g7 + 1 ≠ g16 := by omega
       have ngP13P16 : g10 ≠ g16 := by omega
       have ngP14P16 : g13 ≠ g16 := by omega
       obtain ⟨xP130, xP131, xP132, xP133, xP134, xP135, xP136, xP137, xP138, xP139, -⟩ := ten_cells P13; obtain ⟨xP160, xP161, xP162, xP163, xP164, -⟩ := five_cells P16; obtain ⟨xP40, xP41, xP42, xP43, xP44, xP45, xP46, xP47, xP48, xP49, xP4f0, xP4f1, xP4f2, xP4f3, xP4f4, xP4f5, xP4f6, xP4f7, xP4f8, xP4f9⟩ := ten_cells P4
       go_wp2_with fail
       exact bodyPost_ret (v := .agg #[.bool (sg n), .int .u64 (l0 n : Int), .int .u64 (l1 n : Int), .int .u64 (l2 n : Int), .int .u64 (l3 n : Int), .bool (sg m), .int .u64 (l0 m : Int), .int .u64 (l1 m : Int), .int .u64 (l2 m : Int), .int .u64 (l3 m : Int)]) (by simp [results, Try.results74, go_sem, xP40, xP41, xP42, xP43, xP44, xP45, xP46, xP47, xP48, xP49]) rfl ⟨rfl, ext_ten EE.out (by omega) _ _ _ _ _ _ _ _ _ _⟩
     · have hqp : a / b ≠ c / d := by rw [hq, hp]; exact h1
       obtain ⟨en, em⟩ := Best.unique hb hd B (best_next ha hb hd hle hr0 hqp)
       rw [hq] at en
       subst em
       have fn : F256 n := f256_of (by omega)
       have f1 : F256 1 := by unfold F256; decide
       have kO : Hid (∀ w, Calls Try.prog 39 #[.int .i64 1] w (Ret (.agg #[.bool (sg 1), .int .u64 (l0 1 : Int), .int .u64 (l1 1 : Int), .int .u64 (l2 1 : Int), .int .u64 (l3 1 : Int)]) w)) := fun w => c_ofi (by omega) (by omega) w
       have kA : Hid (∀ w, Calls Try.prog 40 #[.agg #[.bool (sg q), .int .u64 (l0 q : Int), .int .u64 (l1 q : Int), .int .u64 (l2 q : Int), .int .u64 (l3 q : Int)], .agg #[.bool (sg 1), .int .u64 (l0 1 : Int), .int .u64 (l1 1 : Int), .int .u64 (l2 1 : Int), .int .u64 (l3 1 : Int)]] w (Ret (.tuple #[.agg #[.bool (sg n), .int .u64 (l0 n : Int), .int .u64 (l1 n : Int), .int .u64 (l2 n : Int), .int .u64 (l3 n : Int)], .bool true]) w)) := fun w => c_add fq f1 en.symm fn w
       have kI : Hid (∀ w, Calls Try.prog 91 #[.agg #[.bool (sg n), .int .u64 (l0 n : Int), .int .u64 (l1 n : Int), .int .u64 (l2 n : Int), .int .u64 (l3 n : Int)]] w (Ret (.agg #[.bool (sg n), .int .u64 (l0 n : Int), .int .u64 (l1 n : Int), .int .u64 (l2 n : Int), .int .u64 (l3 n : Int), .bool (sg 1), .int .u64 (l0 1 : Int), .int .u64 (l1 1 : Int), .int .u64 (l2 1 : Int), .int .u64 (l3 1 : Int)]) w)) := fun w => s_integer fn w
       have qe := neWW fq fp
       rw [decide_eq_true h1] at qe
       clear hq hr hp ht q0 qa r0 rb t0 td pc fa fb fc fd fq fr fp ft BS n0 m0 hk ha hb hd hle sa sb sc sd B hr0 h0 hqp en fn f1 h1
       obtain ⟨W0, hW0⟩ : ∃ W0, W0 = (((w.alloc (.cells #[.bool (sg a), .int .u64 (l0 a : Int), .int .u64 (l1 a : Int), .int .u64 (l2 a : Int), .int .u64 (l3 a : Int), .bool (sg b), .int .u64 (l0 b : Int), .int .u64 (l1 b : Int), .int .u64 (l2 b : Int), .int .u64 (l3 b : Int)] 40)).alloc (.cells #[.bool (sg c), .int .u64 (l0 c : Int), .int .u64 (l1 c : Int), .int .u64 (l2 c : Int), .int .u64 (l3 c : Int), .bool (sg d), .int .u64 (l0 d : Int), .int .u64 (l1 d : Int), .int .u64 (l2 d : Int), .int .u64 (l3 d : Int)] 40)).alloc (.cells #[.bool false, .int .u64 0, .int .u64 0, .int .u64 0, .int .u64 0, .bool false, .int .u64 0, .int .u64 0, .int .u64 0, .int .u64 0] 40)) := ⟨_, rfl⟩
       have H2 := three_boxes w (.cells #[.bool (sg a), .int .u64 (l0 a : Int), .int .u64 (l1 a : Int), .int .u64 (l2 a : Int), .int .u64 (l3 a : Int), .bool (sg b), .int .u64 (l0 b : Int), .int .u64 (l1 b : Int), .int .u64 (l2 b : Int), .int .u64 (l3 b : Int)] 40) (.cells #[.bool (sg c), .int .u64 (l0 c : Int), .int .u64 (l1 c : Int), .int .u64 (l2 c : Int), .int .u64 (l3 c : Int), .bool (sg d), .int .u64 (l0 d : Int), .int .u64 (l1 d : Int), .int .u64 (l2 d : Int), .int .u64 (l3 d : Int)] 40) (.cells #[.bool false, .int .u64 0, .int .u64 0, .int .u64 0, .int .u64 0, .bool false, .int .u64 0, .int .u64 0, .int .u64 0, .int .u64 0] 40)
       have EE0 : Ext w W0 := by rw [hW0]; exact (((ext_alloc _ _).trans (ext_alloc _ _)).trans (ext_alloc _ _))
       rw [← hW0] at H2
       have EE := hide EE0
       have HW := hide hW0
       obtain ⟨P2, P3, P4⟩ : Box10 W0 (w.heap.size) (sg a) (l0 a) (l1 a) (l2 a) (l3 a) (sg b) (l0 b) (l1 b) (l2 b) (l3 b) ∧ Box10 W0 ((w.heap.size + 1)) (sg c) (l0 c) (l1 c) (l2 c) (l3 c) (sg d) (l0 d) (l1 d) (l2 d) (l3 d) ∧ Box10 W0 ((w.heap.size + 1 + 1)) false 0 0 0 0 false 0 0 0 0 := H2
       clear hW0 EE0
       go_enter Try.func74, Try.ntmps74
       go_upto_region 1 with fail
       rw [← HW.out]
       clear HW
       have hg0 : w.heap.size ≤ w.heap.size := Nat.le_refl _
       obtain ⟨g0, hg⟩ : ∃ g, w.heap.size = g := ⟨_, rfl⟩
       rw [hg] at P2 P3 P4 ⊢
       replace hg0 : w.heap.size ≤ g0 := Nat.le_of_eq hg
       clear hg
       obtain ⟨xP20, xP21, xP22, xP23, xP24, xP25, xP26, xP27, xP28, xP29, -⟩ := ten_cells P2
       go_upto_region 2 with (go_at_call 72; (with_reducible refine (kD.out _).mono ?_); rintro e w1 ⟨rfl, hE⟩; clear xP20 xP21 xP22 xP23 xP24 xP25 xP26 xP27 xP28 xP29; have P2 := P2.ext hE; have P3 := P3.ext hE; have P4 := P4.ext hE; have EE := hide (EE.out.trans hE); clear hE; obtain ⟨xP20, xP21, xP22, xP23, xP24, xP25, xP26, xP27, xP28, xP29, -⟩ := ten_cells P2)
       clear xP20 xP21 xP22 xP23 xP24 xP25 xP26 xP27 xP28 xP29
       have H2 := two_blocks w1 (.cells #[.bool (sg q), .int .u64 (l0 q : Int), .int .u64 (l1 q : Int), .int .u64 (l2 q : Int), .int .u64 (l3 q : Int)] 25) (.cells #[.bool (sg r), .int .u64 (l0 r : Int), .int .u64 (l1 r : Int), .int .u64 (l2 r : Int), .int .u64 (l3 r : Int)] 25)
       have lP2 := P2.lt
       have lP3 := P3.lt
       have lP4 := P4.lt
       have hE := ((ext_alloc w1 (.cells #[.bool (sg q), .int .u64 (l0 q : Int), .int .u64 (l1 q : Int), .int .u64 (l2 q : Int), .int .u64 (l3 q : Int)] 25)).trans (ext_alloc _ (.cells #[.bool (sg r), .int .u64 (l0 r : Int), .int .u64 (l1 r : Int), .int .u64 (l2 r : Int), .int .u64 (l3 r : Int)] 25)))
       have P2 := P2.ext hE
       have P3 := P3.ext hE
       have P4 := P4.ext hE
       have EE := hide (EE.out.trans hE)
       clear hE
       obtain ⟨W2, hW⟩ : ∃ W, W = ((w1.alloc (.cells #[.bool (sg q), .int .u64 (l0 q : Int), .int .u64 (l1 q : Int), .int .u64 (l2 q : Int), .int .u64 (l3 q : Int)] 25)).alloc (.cells #[.bool (sg r), .int .u64 (l0 r : Int), .int .u64 (l1 r : Int), .int .u64 (l2 r : Int), .int .u64 (l3 r : Int)] 25)) := ⟨_, rfl⟩
       rw [← hW] at H2 EE P2 P3 P4 ⊢
       obtain ⟨g3, hg⟩ : ∃ g, w1.heap.size = g := ⟨_, rfl⟩
       rw [hg] at H2 lP2 lP3 lP4 ⊢
       obtain ⟨P5, P6⟩ : Box W2 g3 (sg q) (l0 q) (l1 q) (l2 q) (l3 q) ∧ Box W2 (g3 + 1) (sg r) (l0 r) (l1 r) (l2 r) (l3 r) := H2
       clear hW hg
       have ngP2P5 : g0 ≠ g3 := by omega
       have ngP2P6 : g0 ≠ g3 + 1 := by omega
       have ngP3P5 : g0 + 1 ≠ g3 := by omega
       have ngP3P6 : g0 + 1 ≠ g3 + 1 := by omega
       have ngP4P5 : g0 + 1 + 1 ≠ g3 := by omega
       have ngP4P6 : g0 + 1 + 1 ≠ g3 + 1 := by omega
       obtain ⟨xP60, xP61, xP62, xP63, xP64, -⟩ := five_cells P6
       go_upto_region 4 with (go_at_call 70; (with_reducible refine (kS.out _).mono ?_); rintro e w4 ⟨rfl, hE⟩; clear xP60 xP61 xP62 xP63 xP64; have P2 := P2.ext hE; have P3 := P3.ext hE; have P4 := P4.ext hE; have P5 := P5.ext hE; have P6 := P6.ext hE; have EE := hide (EE.out.trans hE); clear hE; obtain ⟨xP60, xP61, xP62, xP63, xP64, -⟩ := five_cells P6)
       clear xP60 xP61 xP62 xP63 xP64
       obtain ⟨xP30, xP31, xP32, xP33, xP34, xP35, xP36, xP37, xP38, xP39, -⟩ := ten_cells P3
       go_upto_region 5 with (go_at_call 72; (with_reducible refine (kE.out _).mono ?_); rintro e w5 ⟨rfl, hE⟩; clear xP30 xP31 xP32 xP33 xP34 xP35 xP36 xP37 xP38 xP39; have P2 := P2.ext hE; have P3 := P3.ext hE; have P4 := P4.ext hE; have P5 := P5.ext hE; have P6 := P6.ext hE; have EE := hide (EE.out.trans hE); clear hE; obtain ⟨xP30, xP31, xP32, xP33, xP34, xP35, xP36, xP37, xP38, xP39, -⟩ := ten_cells P3)
       clear xP30 xP31 xP32 xP33 xP34 xP35 xP36 xP37 xP38 xP39
       have H2 := two_blocks w5 (.cells #[.bool (sg p), .int .u64 (l0 p : Int), .int .u64 (l1 p : Int), .int .u64 (l2 p : Int), .int .u64 (l3 p : Int)] 25) (.cells #[.bool (sg t), .int .u64 (l0 t : Int), .int .u64 (l1 t : Int), .int .u64 (l2 t : Int), .int .u64 (l3 t : Int)] 25)
       have lP2 := P2.lt
       have lP3 := P3.lt
       have lP4 := P4.lt
       have lP5 := P5.lt
       have lP6 := P6.lt
       have hE := ((ext_alloc w5 (.cells #[.bool (sg p), .int .u64 (l0 p : Int), .int .u64 (l1 p : Int), .int .u64 (l2 p : Int), .int .u64 (l3 p : Int)] 25)).trans (ext_alloc _ (.cells #[.bool (sg t), .int .u64 (l0 t : Int), .int .u64 (l1 t : Int), .int .u64 (l2 t : Int), .int .u64 (l3 t : Int)] 25)))
       have P2 := P2.ext hE
       have P3 := P3.ext hE
       have P4 := P4.ext hE
       have P5 := P5.ext hE
       have P6 := P6.ext hE
       have EE := hide (EE.out.trans hE)
       clear hE
       obtain ⟨W6, hW⟩ : ∃ W, W = ((w5.alloc (.cells #[.bool (sg p), .int .u64 (l0 p : Int), .int .u64 (l1 p : Int), .int .u64 (l2 p : Int), .int .u64 (l3 p : Int)] 25)).alloc (.cells #[.bool (sg t), .int .u64 (l0 t : Int), .int .u64 (l1 t : Int), .int .u64 (l2 t : Int), .int .u64 (l3 t : Int)] 25)) := ⟨_, rfl⟩
       rw [← hW] at H2 EE P2 P3 P4 P5 P6 ⊢
       obtain ⟨g7, hg⟩ : ∃ g, w5.heap.size = g := ⟨_, rfl⟩
       rw [hg] at H2 lP2 lP3 lP4 lP5 lP6 ⊢
       obtain ⟨P8, P9⟩ : Box W6 g7 (sg p) (l0 p) (l1 p) (l2 p) (l3 p) ∧ Box W6 (g7 + 1) (sg t) (l0 t) (l1 t) (l2 t) (l3 t) := H2
       clear hW hg
       have ngP2P8 : g0 ≠ g7 := by omega
       have ngP2P9 : g0 ≠ g7 + 1 := by omega
       have ngP3P8 : g0 + 1 ≠ g7 := by omega
       have ngP3P9 : g0 + 1 ≠ g7 + 1 := by omega
       have ngP4P8 : g0 + 1 + 1 ≠ g7 := by omega
       have ngP4P9 : g0 + 1 + 1 ≠ g7 + 1 := by omega
       have ngP5P8 : g3 ≠ g7 := by omega
       have ngP5P9 : g3 ≠ g7 + 1 := by omega
       have ngP6P8 : g3 + 1 ≠ g7 := by omega
       have ngP6P9 : g3 + 1 ≠ g7 + 1 := by omega
       obtain ⟨xP50, xP51, xP52, xP53, xP54, -⟩ := five_cells P5; obtain ⟨xP80, xP81, xP82, xP83, xP84, -⟩ := five_cells P8
       go_upto_region 6 with fail
       clear xP50 xP51 xP52 xP53 xP54 xP80 xP81 xP82 xP83 xP84
       have lbP2 := P2.lt
       have lbP3 := P3.lt
       have lbP4 := P4.lt
       have lbP5 := P5.lt
       have lbP6 := P6.lt
       have lbP8 := P8.lt
       have lbP9 := P9.lt
       refine wp_decl [.q, .q, .q, .q, .q, .q, .al, .st 6, .q] [.agg #[.bool (sg q), .int .u64 (l0 q : Int), .int .u64 (l1 q : Int), .int .u64 (l2 q : Int), .int .u64 (l3 q : Int)], .agg #[.bool (sg 1), .int .u64 (l0 1 : Int), .int .u64 (l1 1 : Int), .int .u64 (l2 1 : Int), .int .u64 (l3 1 : Int)], .tuple #[.agg #[.bool (sg n), .int .u64 (l0 n : Int), .int .u64 (l1 n : Int), .int .u64 (l2 n : Int), .int .u64 (l3 n : Int)], .bool true], .tuple #[.agg #[.bool (sg n), .int .u64 (l0 n : Int), .int .u64 (l1 n : Int), .int .u64 (l2 n : Int), .int .u64 (l3 n : Int)], .bool true], .agg #[.bool (sg n), .int .u64 (l0 n : Int), .int .u64 (l1 n : Int), .int .u64 (l2 n : Int), .int .u64 (l3 n : Int)], .bool true, undef, undef, .bool true] (fun _ => (.cells #[.bool false, .int .u64 0, .int .u64 0, .int .u64 0, .int .u64 0] 25 (0, 0))) (fun _ => (.cells #[.bool (sg n), .int .u64 (l0 n : Int), .int .u64 (l1 n : Int), .int .u64 (l2 n : Int), .int .u64 (l3 n : Int)] 25 (0, 0))) (fun _ => 0) (by kernel_rfl) (by kernel_rfl) (by kernel_rfl) rfl rfl (by simp) (by simp) ?_ ?_
       · refine ⟨?_, ?_, ?_, ?_, ?_, ?_, ?_, ?_, ?_, trivial⟩
         · refine op_q ?uvn2 ?h1n2 ?h2n2 ?h3n2
           case h1n2 => exact rfl
           case uvn2 => exact (.agg #[.bool (sg q), .int .u64 (l0 q : Int), .int .u64 (l1 q : Int), .int .u64 (l2 q : Int), .int .u64 (l3 q : Int)])
           case h2n2 => exact rfl
           intro w' hw'
           have P5 := P5.same hw' (by simp)
           have xP5 := five_cells P5
           go_simp
         · refine op_q ?uvn3 ?h1n3 ?h2n3 ?h3n3
           case h1n3 => exact rfl
           case uvn3 => exact (.agg #[.bool (sg 1), .int .u64 (l0 1 : Int), .int .u64 (l1 1 : Int), .int .u64 (l2 1 : Int), .int .u64 (l3 1 : Int)])
           case h2n3 => exact rfl
           intro w' hw'
           go_simp
           exact kO.out w'
         · refine op_q ?uvn4 ?h1n4 ?h2n4 ?h3n4
           case h1n4 => exact rfl
           case uvn4 => exact (.tuple #[.agg #[.bool (sg n), .int .u64 (l0 n : Int), .int .u64 (l1 n : Int), .int .u64 (l2 n : Int), .int .u64 (l3 n : Int)], .bool true])
           case h2n4 => exact rfl
           intro w' hw'
           go_simp
           exact kA.out w'
         · refine op_q ?uvn5 ?h1n5 ?h2n5 ?h3n5
           case h1n5 => exact rfl
           case uvn5 => exact (.tuple #[.agg #[.bool (sg n), .int .u64 (l0 n : Int), .int .u64 (l1 n : Int), .int .u64 (l2 n : Int), .int .u64 (l3 n : Int)], .bool true])
           case h2n5 => exact rfl
           intro w' hw'
           go_simp
         · refine op_q ?uvn6 ?h1n6 ?h2n6 ?h3n6
           case h1n6 => exact rfl
           case uvn6 => exact (.agg #[.bool (sg n), .int .u64 (l0 n : Int), .int .u64 (l1 n : Int), .int .u64 (l2 n : Int), .int .u64 (l3 n : Int)])
           case h2n6 => exact rfl
           intro w' hw'
           go_simp
         · refine op_q ?uvn7 ?h1n7 ?h2n7 ?h3n7
           case h1n7 => exact rfl
           case uvn7 => exact (.bool true)
           case h2n7 => exact rfl
           intro w' hw'
           go_simp
         · refine op_al ?uzn8 ?h1n8 ?h2n8 ?h3n8
           case h1n8 => exact rfl
           case h2n8 => exact rfl
           intro ρ w'
           go_simp
           rfl
         · refine op_st (j := 6) (T := ?uTn9) (p := ?upn9) (x := ?uxn9) ?ufn9 ?uzn9 ?uvn9 ?h1n9 ?h2n9 ?h3n9 ?h4n9 ?h5n9 ?h6n9
           case h1n9 => exact rfl
           case h2n9 => exact rfl
           case ufn9 => exact (.cells #[.bool (sg n), .int .u64 (l0 n : Int), .int .u64 (l1 n : Int), .int .u64 (l2 n : Int), .int .u64 (l3 n : Int)] 25 (0, 0))
           case uzn9 => exact (.cells #[.bool false, .int .u64 0, .int .u64 0, .int .u64 0, .int .u64 0] 25 (0, 0))
           case uvn9 => exact (.agg #[.bool (sg n), .int .u64 (l0 n : Int), .int .u64 (l1 n : Int), .int .u64 (l2 n : Int), .int .u64 (l3 n : Int)])
           case h3n9 => exact rfl
           case h4n9 => exact rfl
           case h5n9 => go_simp
           intro ρ w' g' hp hx hz
           exact store_wide rfl hp hx hz
         · refine op_q ?uvn10 ?h1n10 ?h2n10 ?h3n10
           case h1n10 => exact rfl
           case uvn10 => exact (.bool true)
           case h2n10 => exact rfl
           intro w' hw'
           go_simp
       · intro G W8 hI
         have hS := hI.same
         have P2 := P2.same hS (by simp)
         have P3 := P3.same hS (by simp)
         have P4 := P4.same hS (by simp)
         have P5 := P5.same hS (by simp)
         have P6 := P6.same hS (by simp)
         have P8 := P8.same hS (by simp)
         have P9 := P9.same hS (by simp)
         have EE := hide (hS.ext' EE.out (by simp))
         have P11 : Box W8 (G 6) (sg n) (l0 n) (l1 n) (l2 n) (l3 n) := (hI.fulls 7 (List.mem_range.2 (show 7 < 9 by decide)) 6 rfl).2.2
         have hmP11 := (hI.made 6 (List.mem_range.2 (show 6 < 9 by decide)) rfl).1
         have ngP2P11 : g0 ≠ G 6 := by omega
         have ngP3P11 : g0 + 1 ≠ G 6 := by omega
         have ngP4P11 : g0 + 1 + 1 ≠ G 6 := by omega
         have ngP5P11 : g3 ≠ G 6 := by omega
         have ngP6P11 : g3 + 1 ≠ G 6 := by omega
         have ngP8P11 : g7 ≠ G 6 := by omega
         have ngP9P11 : g7 + 1 ≠ G 6 := by omega
         clear hI hS
         simp only [putAll, slotV, ptrTo, Nat.zero_add, Nat.reduceAdd]
         generalize G 6 = gP11 at *
         go_upto_region 7 with fail
         obtain ⟨xP110, xP111, xP112, xP113, xP114, -⟩ := five_cells P11; obtain ⟨xP40, xP41, xP42, xP43, xP44, xP45, xP46, xP47, xP48, xP49, xP4f0, xP4f1, xP4f2, xP4f3, xP4f4, xP4f5, xP4f6, xP4f7, xP4f8, xP4f9⟩ := ten_cells P4
         go_wp2_with (first
           | (go_at_call 91; (with_reducible refine (kI.out _).mono ?_); rintro e w9 ⟨rfl, hE⟩; clear xP110 xP111 xP112 xP113 xP114; clear xP40 xP41 xP42 xP43 xP44 xP45 xP46 xP47 xP48 xP49 xP4f0 xP4f1 xP4f2 xP4f3 xP4f4 xP4f5 xP4f6 xP4f7 xP4f8 xP4f9; have P2 := P2.ext hE; have P3 := P3.ext hE; have P4 := P4.ext hE; have P5 := P5.ext hE; have P6 := P6.ext hE; have P8 := P8.ext hE; have P9 := P9.ext hE; have P11 := P11.ext hE; have EE := hide (EE.out.trans hE); clear hE; obtain ⟨xP110, xP111, xP112, xP113, xP114, -⟩ := five_cells P11; obtain ⟨xP40, xP41, xP42, xP43, xP44, xP45, xP46, xP47, xP48, xP49, xP4f0, xP4f1, xP4f2, xP4f3, xP4f4, xP4f5, xP4f6, xP4f7, xP4f8, xP4f9⟩ := ten_cells P4))
         exact bodyPost_ret (v := .agg #[.bool (sg n), .int .u64 (l0 n : Int), .int .u64 (l1 n : Int), .int .u64 (l2 n : Int), .int .u64 (l3 n : Int), .bool (sg 1), .int .u64 (l0 1 : Int), .int .u64 (l1 1 : Int), .int .u64 (l2 1 : Int), .int .u64 (l3 1 : Int)]) (by simp [results, Try.results74, go_sem, xP40, xP41, xP42, xP43, xP44, xP45, xP46, xP47, xP48, xP49]) rfl ⟨rfl, ext_ten EE.out (by omega) _ _ _ _ _ _ _ _ _ _⟩
end
section
open Go Go.RowKit Go.Sort
attribute [local go_sem] qUpon putAll slotV
theorem cmpI_lt {x y r : Int} (h : cmpI x y = r) : (r < 0 ↔ x < y) ∧ (r = 0 ↔ x = y) ∧ (0 < r ↔ y < x) := by
 rw [← h]; unfold cmpI; split <;> (try split) <;> omega
set_option maxRecDepth 100000 in
set_option maxHeartbeats 8000000 in
theorem s_between {n1 m1 n2 m2 : Int} (h1 : Frac n1 m1) (h2 : Frac n2 m2) {n m : Int} (hle : n1 * m2 ≤ n2 * m1) (B : Best n1 m1 n2 m2 n m) (w : World) : Calls Try.prog 44 #[.agg #[.bool (sg n1), .int .u64 (l0 n1 : Int), .int .u64 (l1 n1 : Int), .int .u64 (l2 n1 : Int), .int .u64 (l3 n1 : Int), .bool (sg m1), .int .u64 (l0 m1 : Int), .int .u64 (l1 m1 : Int), .int .u64 (l2 m1 : Int), .int .u64 (l3 m1 : Int)], .agg #[.bool (sg n2), .int .u64 (l0 n2 : Int), .int .u64 (l1 n2 : Int), .int .u64 (l2 n2 : Int), .int .u64 (l3 n2 : Int), .bool (sg m2), .int .u64 (l0 m2 : Int), .int .u64 (l1 m2 : Int), .int .u64 (l2 m2 : Int), .int .u64 (l3 m2 : Int)]] w (Ret (.tuple #[.agg #[.bool (sg n), .int .u64 (l0 n : Int), .int .u64 (l1 n : Int), .int .u64 (l2 n : Int), .int .u64 (l3 n : Int), .bool (sg m), .int .u64 (l0 m : Int), .int .u64 (l1 m : Int), .int .u64 (l2 m : Int), .int .u64 (l3 m : Int)], .bool true]) w) := by
 obtain ⟨c, hc⟩ : ∃ r, cmpI (n1 * m2) (n2 * m1) = r := ⟨_, rfl⟩
 have hc0 : ¬ 0 < c := by rw [(cmpI_lt hc).2.2]; omega
 have kV1 : Hid (∀ w, Calls Try.prog 50 #[.agg #[.bool (sg n1), .int .u64 (l0 n1 : Int), .int .u64 (l1 n1 : Int), .int .u64 (l2 n1 : Int), .int .u64 (l3 n1 : Int), .bool (sg m1), .int .u64 (l0 m1 : Int), .int .u64 (l1 m1 : Int), .int .u64 (l2 m1 : Int), .int .u64 (l3 m1 : Int)]] w (Ret (.bool true) w)) := fun w => g_valid h1 w
 have kV2 : Hid (∀ w, Calls Try.prog 50 #[.agg #[.bool (sg n2), .int .u64 (l0 n2 : Int), .int .u64 (l1 n2 : Int), .int .u64 (l2 n2 : Int), .int .u64 (l3 n2 : Int), .bool (sg m2), .int .u64 (l0 m2 : Int), .int .u64 (l1 m2 : Int), .int .u64 (l2 m2 : Int), .int .u64 (l3 m2 : Int)]] w (Ret (.bool true) w)) := fun w => g_valid h2 w
 have kC : Hid (∀ w, Calls Try.prog 51 #[.agg #[.bool (sg n1), .int .u64 (l0 n1 : Int), .int .u64 (l1 n1 : Int), .int .u64 (l2 n1 : Int), .int .u64 (l3 n1 : Int), .bool (sg m1), .int .u64 (l0 m1 : Int), .int .u64 (l1 m1 : Int), .int .u64 (l2 m1 : Int), .int .u64 (l3 m1 : Int)], .agg #[.bool (sg n2), .int .u64 (l0 n2 : Int), .int .u64 (l1 n2 : Int), .int .u64 (l2 n2 : Int), .int .u64 (l3 n2 : Int), .bool (sg m2), .int .u64 (l0 m2 : Int), .int .u64 (l1 m2 : Int), .int .u64 (l2 m2 : Int), .int .u64 (l3 m2 : Int)]] w (Ret (.int .i64 c) w)) := fun w => g_cmp h1 h2 hc w
 clear hc
 by_cases hp : 0 < n1
 · have kS : Hid (∀ w, Calls Try.prog 70 #[.agg #[.bool (sg n1), .int .u64 (l0 n1 : Int), .int .u64 (l1 n1 : Int), .int .u64 (l2 n1 : Int), .int .u64 (l3 n1 : Int)]] w (Ret (.int .i64 1) w)) := fun w => c_sign h1.fn (Int.sign_eq_one_of_pos hp) w
   have kB : Hid (∀ w, Calls Try.prog 74 #[.agg #[.bool (sg n1), .int .u64 (l0 n1 : Int), .int .u64 (l1 n1 : Int), .int .u64 (l2 n1 : Int), .int .u64 (l3 n1 : Int), .bool (sg m1), .int .u64 (l0 m1 : Int), .int .u64 (l1 m1 : Int), .int .u64 (l2 m1 : Int), .int .u64 (l3 m1 : Int)], .agg #[.bool (sg n2), .int .u64 (l0 n2 : Int), .int .u64 (l1 n2 : Int), .int .u64 (l2 n2 : Int), .int .u64 (l3 n2 : Int), .bool (sg m2), .int .u64 (l0 m2 : Int), .int .u64 (l1 m2 : Int), .int .u64 (l2 m2 : Int), .int .u64 (l3 m2 : Int)]] w (Ret (.agg #[.bool (sg n), .int .u64 (l0 n : Int), .int .u64 (l1 n : Int), .int .u64 (l2 n : Int), .int .u64 (l3 n : Int), .bool (sg m), .int .u64 (l0 m : Int), .int .u64 (l1 m : Int), .int .u64 (l2 m : Int), .int .u64 (l3 m : Int)]) w)) := fun w => s_bp _ n1 m1 n2 m2 n m (Nat.lt_succ_self _) hp h1.1 h2.1 hle h1.2.1 h1.2.2.1 h2.2.1 h2.2.2.1 B w
   clear h1 h2 hle B hp
   obtain ⟨W0, hW0⟩ : ∃ W0, W0 = (((w.alloc (.cells #[.bool (sg n1), .int .u64 (l0 n1 : Int), .int .u64 (l1 n1 : Int), .int .u64 (l2 n1 : Int), .int .u64 (l3 n1 : Int), .bool (sg m1), .int .u64 (l0 m1 : Int), .int .u64 (l1 m1 : Int), .int .u64 (l2 m1 : Int), .int .u64 (l3 m1 : Int)] 40)).alloc (.cells #[.bool (sg n2), .int .u64 (l0 n2 : Int), .int .u64 (l1 n2 : Int), .int .u64 (l2 n2 : Int), .int .u64 (l3 n2 : Int), .bool (sg m2), .int .u64 (l0 m2 : Int), .int .u64 (l1 m2 : Int), .int .u64 (l2 m2 : Int), .int .u64 (l3 m2 : Int)] 40)).alloc (.cells #[.bool false, .int .u64 0, .int .u64 0, .int .u64 0, .int .u64 0, .bool false, .int .u64 0, .int .u64 0, .int .u64 0, .int .u64 0] 40)) := ⟨_, rfl⟩
   have H2 := three_boxes w (.cells #[.bool (sg n1), .int .u64 (l0 n1 : Int), .int .u64 (l1 n1 : Int), .int .u64 (l2 n1 : Int), .int .u64 (l3 n1 : Int), .bool (sg m1), .int .u64 (l0 m1 : Int), .int .u64 (l1 m1 : Int), .int .u64 (l2 m1 : Int), .int .u64 (l3 m1 : Int)] 40) (.cells #[.bool (sg n2), .int .u64 (l0 n2 : Int), .int .u64 (l1 n2 : Int), .int .u64 (l2 n2 : Int), .int .u64 (l3 n2 : Int), .bool (sg m2), .int .u64 (l0 m2 : Int), .int .u64 (l1 m2 : Int), .int .u64 (l2 m2 : Int), .int .u64 (l3 m2 : Int)] 40) (.cells #[.bool false, .int .u64 0, .int .u64 0, .int .u64 0, .int .u64 0, .bool false, .int .u64 0, .int .u64 0, .int .u64 0, .int .u64 0] 40)
   have EE0 : Ext w W0 := by rw [hW0]; exact (((ext_alloc _ _).trans (ext_alloc _ _)).trans (ext_alloc _ _))
   rw [← hW0] at H2
   have EE := hide EE0
   have HW := hide hW0
   obtain ⟨P2, P3, P4⟩ : Box10 W0 (w.heap.size) (sg n1) (l0 n1) (l1 n1) (l2 n1) (l3 n1) (sg m1) (l0 m1) (l1 m1) (l2 m1) (l3 m1) ∧ Box10 W0 ((w.heap.size + 1)) (sg n2) (l0 n2) (l1 n2) (l2 n2) (l3 n2) (sg m2) (l0 m2) (l1 m2) (l2 m2) (l3 m2) ∧ Box10 W0 ((w.heap.size + 1 + 1)) false 0 0 0 0 false 0 0 0 0 := H2
   clear hW0 EE0
   go_enter Try.func44, Try.ntmps44
   go_upto_region 1 with fail
   rw [← HW.out]
   clear HW
   have hg0 : w.heap.size ≤ w.heap.size := Nat.le_refl _
   obtain ⟨g0, hg⟩ : ∃ g, w.heap.size = g := ⟨_, rfl⟩
   rw [hg] at P2 P3 P4 ⊢
   replace hg0 : w.heap.size ≤ g0 := Nat.le_of_eq hg
   clear hg
   obtain ⟨xP20, xP21, xP22, xP23, xP24, xP25, xP26, xP27, xP28, xP29, -⟩ := ten_cells P2; obtain ⟨xP30, xP31, xP32, xP33, xP34, xP35, xP36, xP37, xP38, xP39, -⟩ := ten_cells P3; obtain ⟨xP40, xP41, xP42, xP43, xP44, xP45, xP46, xP47, xP48, xP49, xP4f0, xP4f1, xP4f2, xP4f3, xP4f4, xP4f5, xP4f6, xP4f7, xP4f8, xP4f9⟩ := ten_cells P4
   go_wp2_with (first
     | (go_at_call 50; (with_reducible refine (kV1.out _).mono ?_); rintro e w1 ⟨rfl, hE⟩; clear xP20 xP21 xP22 xP23 xP24 xP25 xP26 xP27 xP28 xP29 xP30 xP31 xP32 xP33 xP34 xP35 xP36 xP37 xP38 xP39; clear xP40 xP41 xP42 xP43 xP44 xP45 xP46 xP47 xP48 xP49 xP4f0 xP4f1 xP4f2 xP4f3 xP4f4 xP4f5 xP4f6 xP4f7 xP4f8 xP4f9; have P2 := P2.ext hE; have P3 := P3.ext hE; have P4 := P4.ext hE; have EE := hide (EE.out.trans hE); clear hE; obtain ⟨xP20, xP21, xP22, xP23, xP24, xP25, xP26, xP27, xP28, xP29, -⟩ := ten_cells P2; obtain ⟨xP30, xP31, xP32, xP33, xP34, xP35, xP36, xP37, xP38, xP39, -⟩ := ten_cells P3; obtain ⟨xP40, xP41, xP42, xP43, xP44, xP45, xP46, xP47, xP48, xP49, xP4f0, xP4f1, xP4f2, xP4f3, xP4f4, xP4f5, xP4f6, xP4f7, xP4f8, xP4f9⟩ := ten_cells P4)
     | (go_at_call 50; (with_reducible refine (kV2.out _).mono ?_); rintro e w2 ⟨rfl, hE⟩; clear xP20 xP21 xP22 xP23 xP24 xP25 xP26 xP27 xP28 xP29 xP30 xP31 xP32 xP33 xP34 xP35 xP36 xP37 xP38 xP39; clear xP40 xP41 xP42 xP43 xP44 xP45 xP46 xP47 xP48 xP49 xP4f0 xP4f1 xP4f2 xP4f3 xP4f4 xP4f5 xP4f6 xP4f7 xP4f8 xP4f9; have P2 := P2.ext hE; have P3 := P3.ext hE; have P4 := P4.ext hE; have EE := hide (EE.out.trans hE); clear hE; obtain ⟨xP20, xP21, xP22, xP23, xP24, xP25, xP26, xP27, xP28, xP29, -⟩ := ten_cells P2; obtain ⟨xP30, xP31, xP32, xP33, xP34, xP35, xP36, xP37, xP38, xP39, -⟩ := ten_cells P3; obtain ⟨xP40, xP41, xP42, xP43, xP44, xP45, xP46, xP47, xP48, xP49, xP4f0, xP4f1, xP4f2, xP4f3, xP4f4, xP4f5, xP4f6, xP4f7, xP4f8, xP4f9⟩ := ten_cells P4)
     | (go_at_call 51; (with_reducible refine (kC.out _).mono ?_); rintro e w3 ⟨rfl, hE⟩; clear xP20 xP21 xP22 xP23 xP24 xP25 xP26 xP27 xP28 xP29 xP30 xP31 xP32 xP33 xP34 xP35 xP36 xP37 xP38 xP39; clear xP40 xP41 xP42 xP43 xP44 xP45 xP46 xP47 xP48 xP49 xP4f0 xP4f1 xP4f2 xP4f3 xP4f4 xP4f5 xP4f6 xP4f7 xP4f8 xP4f9; have P2 := P2.ext hE; have P3 := P3.ext hE; have P4 := P4.ext hE; have EE := hide (EE.out.trans hE); clear hE; obtain ⟨xP20, xP21, xP22, xP23, xP24, xP25, xP26, xP27, xP28, xP29, -⟩ := ten_cells P2; obtain ⟨xP30, xP31, xP32, xP33, xP34, xP35, xP36, xP37, xP38, xP39, -⟩ := ten_cells P3; obtain ⟨xP40, xP41, xP42, xP43, xP44, xP45, xP46, xP47, xP48, xP49, xP4f0, xP4f1, xP4f2, xP4f3, xP4f4, xP4f5, xP4f6, xP4f7, xP4f8, xP4f9⟩ := ten_cells P4)
     | (go_at_call 70; (with_reducible refine (kS.out _).mono ?_); rintro e w4 ⟨rfl, hE⟩; clear xP20 xP21 xP22 xP23 xP24 xP25 xP26 xP27 xP28 xP29 xP30 xP31 xP32 xP33 xP34 xP35 xP36 xP37 xP38 xP39; clear xP40 xP41 xP42 xP43 xP44 xP45 xP46 xP47 xP48 xP49 xP4f0 xP4f1 xP4f2 xP4f3 xP4f4 xP4f5 xP4f6 xP4f7 xP4f8 xP4f9; have P2 := P2.ext hE; have P3 := P3.ext hE; have P4 := P4.ext hE; have EE := hide (EE.out.trans hE); clear hE; obtain ⟨xP20, xP21, xP22, xP23, xP24, xP25, xP26, xP27, xP28, xP29, -⟩ := ten_cells P2; obtain ⟨xP30, xP31, xP32, xP33, xP34, xP35, xP36, xP37, xP38, xP39, -⟩ := ten_cells P3; obtain ⟨xP40, xP41, xP42, xP43, xP44, xP45, xP46, xP47, xP48, xP49, xP4f0, xP4f1, xP4f2, xP4f3, xP4f4, xP4f5, xP4f6, xP4f7, xP4f8, xP4f9⟩ := ten_cells P4)
     | (go_at_call 74; (with_reducible refine (kB.out _).mono ?_); rintro e w5 ⟨rfl, hE⟩; clear xP20 xP21 xP22 xP23 xP24 xP25 xP26 xP27 xP28 xP29 xP30 xP31 xP32 xP33 xP34 xP35 xP36 xP37 xP38 xP39; clear xP40 xP41 xP42 xP43 xP44 xP45 xP46 xP47 xP48 xP49 xP4f0 xP4f1 xP4f2 xP4f3 xP4f4 xP4f5 xP4f6 xP4f7 xP4f8 xP4f9; have P2 := P2.ext hE; have P3 := P3.ext hE; have P4 := P4.ext hE; have EE := hide (EE.out.trans hE); clear hE; obtain ⟨xP20, xP21, xP22, xP23, xP24, xP25, xP26, xP27, xP28, xP29, -⟩ := ten_cells P2; obtain ⟨xP30, xP31, xP32, xP33, xP34, xP35, xP36, xP37, xP38, xP39, -⟩ := ten_cells P3; obtain ⟨xP40, xP41, xP42, xP43, xP44, xP45, xP46, xP47, xP48, xP49, xP4f0, xP4f1, xP4f2, xP4f3, xP4f4, xP4f5, xP4f6, xP4f7, xP4f8, xP4f9⟩ := ten_cells P4))
   exact bodyPost_ret (v := .tuple #[.agg #[.bool (sg n), .int .u64 (l0 n : Int), .int .u64 (l1 n : Int), .int .u64 (l2 n : Int), .int .u64 (l3 n : Int), .bool (sg m), .int .u64 (l0 m : Int), .int .u64 (l1 m : Int), .int .u64 (l2 m : Int), .int .u64 (l3 m : Int)], .bool true]) (by simp [results, Try.results44, go_sem, xP40, xP41, xP42, xP43, xP44, xP45, xP46, xP47, xP48, xP49]) rfl ⟨rfl, ext_ten EE.out (by omega) _ _ _ _ _ _ _ _ _ _⟩
 · obtain ⟨j, hj, j1, j2, _⟩ := some_sign n1
   have hj0 : ¬ 0 < j := fun q => hp (j2.1 q)
   have kS : Hid (∀ w, Calls Try.prog 70 #[.agg #[.bool (sg n1), .int .u64 (l0 n1 : Int), .int .u64 (l1 n1 : Int), .int .u64 (l2 n1 : Int), .int .u64 (l3 n1 : Int)]] w (Ret (.int .i64 j) w)) := fun w => c_sign h1.fn hj w
   clear hj j1 j2
   by_cases hq : n2 < 0
   · obtain ⟨u1, hu1⟩ : ∃ u : Int, -n1 = u := ⟨_, rfl⟩
     obtain ⟨u2, hu2⟩ : ∃ u : Int, -n2 = u := ⟨_, rfl⟩
     obtain ⟨u, hu⟩ : ∃ u : Int, -n = u := ⟨_, rfl⟩
     have hun : -u = n := by omega
     have B' := B.neg
     rw [hu1, hu2, hu] at B'
     have hl' : u2 * m1 ≤ u1 * m2 := by rw [← hu1, ← hu2, Int.neg_mul, Int.neg_mul]; omega
     have S := (B.small h1.1 h2.1 hle).1
     have fu : F256 u := F256.mk (by have := h1.2.1; omega)
     have kT : Hid (∀ w, Calls Try.prog 70 #[.agg #[.bool (sg n2), .int .u64 (l0 n2 : Int), .int .u64 (l1 n2 : Int), .int .u64 (l2 n2 : Int), .int .u64 (l3 n2 : Int)]] w (Ret (.int .i64 (-1)) w)) := fun w => c_sign h2.fn (Int.sign_eq_neg_one_of_neg hq) w
     have kN1 : Hid (∀ w, Calls Try.prog 75 #[.agg #[.bool (sg n1), .int .u64 (l0 n1 : Int), .int .u64 (l1 n1 : Int), .int .u64 (l2 n1 : Int), .int .u64 (l3 n1 : Int), .bool (sg m1), .int .u64 (l0 m1 : Int), .int .u64 (l1 m1 : Int), .int .u64 (l2 m1 : Int), .int .u64 (l3 m1 : Int)]] w (Ret (.agg #[.bool (sg u1), .int .u64 (l0 u1 : Int), .int .u64 (l1 u1 : Int), .int .u64 (l2 u1 : Int), .int .u64 (l3 u1 : Int), .bool (sg m1), .int .u64 (l0 m1 : Int), .int .u64 (l1 m1 : Int), .int .u64 (l2 m1 : Int), .int .u64 (l3 m1 : Int)]) w)) := fun w => s_negative h1.fn hu1 w
     have kN2 : Hid (∀ w, Calls Try.prog 75 #[.agg #[.bool (sg n2), .int .u64 (l0 n2 : Int), .int .u64 (l1 n2 : Int), .int .u64 (l2 n2 : Int), .int .u64 (l3 n2 : Int), .bool (sg m2), .int .u64 (l0 m2 : Int), .int .u64 (l1 m2 : Int), .int .u64 (l2 m2 : Int), .int .u64 (l3 m2 : Int)]] w (Ret (.agg #[.bool (sg u2), .int .u64 (l0 u2 : Int), .int .u64 (l1 u2 : Int), .int .u64 (l2 u2 : Int), .int .u64 (l3 u2 : Int), .bool (sg m2), .int .u64 (l0 m2 : Int), .int .u64 (l1 m2 : Int), .int .u64 (l2 m2 : Int), .int .u64 (l3 m2 : Int)]) w)) := fun w => s_negative h2.fn hu2 w
     have kB : Hid (∀ w, Calls Try.prog 74 #[.agg #[.bool (sg u2), .int .u64 (l0 u2 : Int), .int .u64 (l1 u2 : Int), .int .u64 (l2 u2 : Int), .int .u64 (l3 u2 : Int), .bool (sg m2), .int .u64 (l0 m2 : Int), .int .u64 (l1 m2 : Int), .int .u64 (l2 m2 : Int), .int .u64 (l3 m2 : Int)], .agg #[.bool (sg u1), .int .u64 (l0 u1 : Int), .int .u64 (l1 u1 : Int), .int .u64 (l2 u1 : Int), .int .u64 (l3 u1 : Int), .bool (sg m1), .int .u64 (l0 m1 : Int), .int .u64 (l1 m1 : Int), .int .u64 (l2 m1 : Int), .int .u64 (l3 m1 : Int)]] w (Ret (.agg #[.bool (sg u), .int .u64 (l0 u : Int), .int .u64 (l1 u : Int), .int .u64 (l2 u : Int), .int .u64 (l3 u : Int), .bool (sg m), .int .u64 (l0 m : Int), .int .u64 (l1 m : Int), .int .u64 (l2 m : Int), .int .u64 (l3 m : Int)]) w)) := fun w => s_bp _ u2 m2 u1 m1 u m (Nat.lt_succ_self _) (by omega) h2.1 h1.1 hl' (by have := h2.2.1; omega) h2.2.2.1 (by have := h1.2.1; omega) h1.2.2.1 B' w
     have kN : Hid (∀ w, Calls Try.prog 75 #[.agg #[.bool (sg u), .int .u64 (l0 u : Int), .int .u64 (l1 u : Int), .int .u64 (l2 u : Int), .int .u64 (l3 u : Int), .bool (sg m), .int .u64 (l0 m : Int), .int .u64 (l1 m : Int), .int .u64 (l2 m : Int), .int .u64 (l3 m : Int)]] w (Ret (.agg #[.bool (sg n), .int .u64 (l0 n : Int), .int .u64 (l1 n : Int), .int .u64 (l2 n : Int), .int .u64 (l3 n : Int), .bool (sg m), .int .u64 (l0 m : Int), .int .u64 (l1 m : Int), .int .u64 (l2 m : Int), .int .u64 (l3 m : Int)]) w)) := fun w => s_negative fu hun w
     clear h1 h2 hle B hp hq hu1 hu2 hu hun B' hl' S fu
     obtain ⟨W0, hW0⟩ : ∃ W0, W0 = (((w.alloc (.cells #[.bool (sg n1), .int .u64 (l0 n1 : Int), .int .u64 (l1 n1 : Int), .int .u64 (l2 n1 : Int), .int .u64 (l3 n1 : Int), .bool (sg m1), .int .u64 (l0 m1 : Int), .int .u64 (l1 m1 : Int), .int .u64 (l2 m1 : Int), .int .u64 (l3 m1 : Int)] 40)).alloc (.cells #[.bool (sg n2), .int .u64 (l0 n2 : Int), .int .u64 (l1 n2 : Int), .int .u64 (l2 n2 : Int), .int .u64 (l3 n2 : Int), .bool (sg m2), .int .u64 (l0 m2 : Int), .int .u64 (l1 m2 : Int), .int .u64 (l2 m2 : Int), .int .u64 (l3 m2 : Int)] 40)).alloc (.cells #[.bool false, .int .u64 0, .int .u64 0, .int .u64 0, .int .u64 0, .bool false, .int .u64 0, .int .u64 0, .int .u64 0, .int .u64 0] 40)) := ⟨_, rfl⟩
     have H2 := three_boxes w (.cells #[.bool (sg n1), .int .u64 (l0 n1 : Int), .int .u64 (l1 n1 : Int), .int .u64 (l2 n1 : Int), .int .u64 (l3 n1 : Int), .bool (sg m1), .int .u64 (l0 m1 : Int), .int .u64 (l1 m1 : Int), .int .u64 (l2 m1 : Int), .int .u64 (l3 m1 : Int)] 40) (.cells #[.bool (sg n2), .int .u64 (l0 n2 : Int), .int .u64 (l1 n2 : Int), .int .u64 (l2 n2 : Int), .int .u64 (l3 n2 : Int), .bool (sg m2), .int .u64 (l0 m2 : Int), .int .u64 (l1 m2 : Int), .int .u64 (l2 m2 : Int), .int .u64 (l3 m2 : Int)] 40) (.cells #[.bool false, .int .u64 0, .int .u64 0, .int .u64 0, .int .u64 0, .bool false, .int .u64 0, .int .u64 0, .int .u64 0, .int .u64 0] 40)
     have EE0 : Ext w W0 := by rw [hW0]; exact (((ext_alloc _ _).trans (ext_alloc _ _)).trans (ext_alloc _ _))
     rw [← hW0] at H2
     have EE := hide EE0
     have HW := hide hW0
     obtain ⟨P2, P3, P4⟩ : Box10 W0 (w.heap.size) (sg n1) (l0 n1) (l1 n1) (l2 n1) (l3 n1) (sg m1) (l0 m1) (l1 m1) (l2 m1) (l3 m1) ∧ Box10 W0 ((w.heap.size + 1)) (sg n2) (l0 n2) (l1 n2) (l2 n2) (l3 n2) (sg m2) (l0 m2) (l1 m2) (l2 m2) (l3 m2) ∧ Box10 W0 ((w.heap.size + 1 + 1)) false 0 0 0 0 false 0 0 0 0 := H2
     clear hW0 EE0
     go_enter Try.func44, Try.ntmps44
     go_upto_region 1 with fail
     rw [← HW.out]
     clear HW
     have hg0 : w.heap.size ≤ w.heap.size := Nat.le_refl _
     obtain ⟨g0, hg⟩ : ∃ g, w.heap.size = g := ⟨_, rfl⟩
     rw [hg] at P2 P3 P4 ⊢
     replace hg0 : w.heap.size ≤ g0 := Nat.le_of_eq hg
     clear hg
     obtain ⟨xP20, xP21, xP22, xP23, xP24, xP25, xP26, xP27, xP28, xP29, -⟩ := ten_cells P2; obtain ⟨xP30, xP31, xP32, xP33, xP34, xP35, xP36, xP37, xP38, xP39, -⟩ := ten_cells P3
     go_upto_region 3 with (first
       | (go_at_call 50; (with_reducible refine (kV1.out _).mono ?_); rintro e w1 ⟨rfl, hE⟩; clear xP20 xP21 xP22 xP23 xP24 xP25 xP26 xP27 xP28 xP29 xP30 xP31 xP32 xP33 xP34 xP35 xP36 xP37 xP38 xP39; have P2 := P2.ext hE; have P3 := P3.ext hE; have P4 := P4.ext hE; have EE := hide (EE.out.trans hE); clear hE; obtain ⟨xP20, xP21, xP22, xP23, xP24, xP25, xP26, xP27, xP28, xP29, -⟩ := ten_cells P2; obtain ⟨xP30, xP31, xP32, xP33, xP34, xP35, xP36, xP37, xP38, xP39, -⟩ := ten_cells P3)
       | (go_at_call 50; (with_reducible refine (kV2.out _).mono ?_); rintro e w2 ⟨rfl, hE⟩; clear xP20 xP21 xP22 xP23 xP24 xP25 xP26 xP27 xP28 xP29 xP30 xP31 xP32 xP33 xP34 xP35 xP36 xP37 xP38 xP39; have P2 := P2.ext hE; have P3 := P3.ext hE; have P4 := P4.ext hE; have EE := hide (EE.out.trans hE); clear hE; obtain ⟨xP20, xP21, xP22, xP23, xP24, xP25, xP26, xP27, xP28, xP29, -⟩ := ten_cells P2; obtain ⟨xP30, xP31, xP32, xP33, xP34, xP35, xP36, xP37, xP38, xP39, -⟩ := ten_cells P3)
       | (go_at_call 51; (with_reducible refine (kC.out _).mono ?_); rintro e w3 ⟨rfl, hE⟩; clear xP20 xP21 xP22 xP23 xP24 xP25 xP26 xP27 xP28 xP29 xP30 xP31 xP32 xP33 xP34 xP35 xP36 xP37 xP38 xP39; have P2 := P2.ext hE; have P3 := P3.ext hE; have P4 := P4.ext hE; have EE := hide (EE.out.trans hE); clear hE; obtain ⟨xP20, xP21, xP22, xP23, xP24, xP25, xP26, xP27, xP28, xP29, -⟩ := ten_cells P2; obtain ⟨xP30, xP31, xP32, xP33, xP34, xP35, xP36, xP37, xP38, xP39, -⟩ := ten_cells P3))
     clear xP20 xP21 xP22 xP23 xP24 xP25 xP26 xP27 xP28 xP29 xP30 xP31 xP32 xP33 xP34 xP35 xP36 xP37 xP38 xP39
     obtain ⟨xP20, xP21, xP22, xP23, xP24, xP25, xP26, xP27, xP28, xP29, -⟩ := ten_cells P2
     go_upto_region 5 with (go_at_call 70; (with_reducible refine (kS.out _).mono ?_); rintro e w4 ⟨rfl, hE⟩; clear xP20 xP21 xP22 xP23 xP24 xP25 xP26 xP27 xP28 xP29; have P2 := P2.ext hE; have P3 := P3.ext hE; have P4 := P4.ext hE; have EE := hide (EE.out.trans hE); clear hE; obtain ⟨xP20, xP21, xP22, xP23, xP24, xP25, xP26, xP27, xP28, xP29, -⟩ := ten_cells P2)
     clear xP20 xP21 xP22 xP23 xP24 xP25 xP26 xP27 xP28 xP29
     obtain ⟨xP30, xP31, xP32, xP33, xP34, xP35, xP36, xP37, xP38, xP39, -⟩ := ten_cells P3
     go_upto_region 6 with (go_at_call 70; (with_reducible refine (kT.out _).mono ?_); rintro e w5 ⟨rfl, hE⟩; clear xP30 xP31 xP32 xP33 xP34 xP35 xP36 xP37 xP38 xP39; have P2 := P2.ext hE; have P3 := P3.ext hE; have P4 := P4.ext hE; have EE := hide (EE.out.trans hE); clear hE; obtain ⟨xP30, xP31, xP32, xP33, xP34, xP35, xP36, xP37, xP38, xP39, -⟩ := ten_cells P3)
     clear xP30 xP31 xP32 xP33 xP34 xP35 xP36 xP37 xP38 xP39
     have lbP2 := P2.lt
     have lbP3 := P3.lt
     have lbP4 := P4.lt
     have ltW0 : ∀ c, Tag.so c ∈ [.q, .q, .q, .q, .q, .q, .so 0, .q] → (fun _ => g0 + 1 + 1) c < w5.heap.size := by intro c hc; simp at hc; (try subst hc); (try simp only); omega
     refine wp_decl [.q, .q, .q, .q, .q, .q, .so 0, .q] [.agg #[.bool (sg n2), .int .u64 (l0 n2 : Int), .int .u64 (l1 n2 : Int), .int .u64 (l2 n2 : Int), .int .u64 (l3 n2 : Int), .bool (sg m2), .int .u64 (l0 m2 : Int), .int .u64 (l1 m2 : Int), .int .u64 (l2 m2 : Int), .int .u64 (l3 m2 : Int)], .agg #[.bool (sg u2), .int .u64 (l0 u2 : Int), .int .u64 (l1 u2 : Int), .int .u64 (l2 u2 : Int), .int .u64 (l3 u2 : Int), .bool (sg m2), .int .u64 (l0 m2 : Int), .int .u64 (l1 m2 : Int), .int .u64 (l2 m2 : Int), .int .u64 (l3 m2 : Int)], .agg #[.bool (sg n1), .int .u64 (l0 n1 : Int), .int .u64 (l1 n1 : Int), .int .u64 (l2 n1 : Int), .int .u64 (l3 n1 : Int), .bool (sg m1), .int .u64 (l0 m1 : Int), .int .u64 (l1 m1 : Int), .int .u64 (l2 m1 : Int), .int .u64 (l3 m1 : Int)], .agg #[.bool (sg u1), .int .u64 (l0 u1 : Int), .int .u64 (l1 u1 : Int), .int .u64 (l2 u1 : Int), .int .u64 (l3 u1 : Int), .bool (sg m1), .int .u64 (l0 m1 : Int), .int .u64 (l1 m1 : Int), .int .u64 (l2 m1 : Int), .int .u64 (l3 m1 : Int)], .agg #[.bool (sg u), .int .u64 (l0 u : Int), .int .u64 (l1 u : Int), .int .u64 (l2 u : Int), .int .u64 (l3 u : Int), .bool (sg m), .int .u64 (l0 m : Int), .int .u64 (l1 m : Int), .int .u64 (l2 m : Int), .int .u64 (l3 m : Int)], .agg #[.bool (sg n), .int .u64 (l0 n : Int), .int .u64 (l1 n : Int), .int .u64 (l2 n : Int), .int .u64 (l3 n : Int), .bool (sg m), .int .u64 (l0 m : Int), .int .u64 (l1 m : Int), .int .u64 (l2 m : Int), .int .u64 (l3 m : Int)], undef, .bool true] (fun _ => (.cells #[.bool false, .int .u64 0, .int .u64 0, .int .u64 0, .int .u64 0] 25 (0, 0))) (fun _ => (.cells #[.bool (sg n), .int .u64 (l0 n : Int), .int .u64 (l1 n : Int), .int .u64 (l2 n : Int), .int .u64 (l3 n : Int), .bool (sg m), .int .u64 (l0 m : Int), .int .u64 (l1 m : Int), .int .u64 (l2 m : Int), .int .u64 (l3 m : Int)] 40 (0, 0))) (fun _ => g0 + 1 + 1) (by kernel_rfl) (by kernel_rfl) (by kernel_rfl) rfl rfl ltW0 (by intro c c' h1 h2 _; simp at h1 h2; omega) ?_ ?_
     · refine ⟨?_, ?_, ?_, ?_, ?_, ?_, ?_, ?_, trivial⟩
       · refine op_q ?uvn2 ?h1n2 ?h2n2 ?h3n2
         case h1n2 => exact rfl
         case uvn2 => exact (.agg #[.bool (sg n2), .int .u64 (l0 n2 : Int), .int .u64 (l1 n2 : Int), .int .u64 (l2 n2 : Int), .int .u64 (l3 n2 : Int), .bool (sg m2), .int .u64 (l0 m2 : Int), .int .u64 (l1 m2 : Int), .int .u64 (l2 m2 : Int), .int .u64 (l3 m2 : Int)])
         case h2n2 => exact rfl
         intro w' hw'
         have P3 := P3.same hw' (by intro c hc; simp at hc; (try subst hc); (try simp only); omega)
         have xP3 := ten_cells P3
         go_simp
       · refine op_q ?uvn3 ?h1n3 ?h2n3 ?h3n3
         case h1n3 => exact rfl
         case uvn3 => exact (.agg #[.bool (sg u2), .int .u64 (l0 u2 : Int), .int .u64 (l1 u2 : Int), .int .u64 (l2 u2 : Int), .int .u64 (l3 u2 : Int), .bool (sg m2), .int .u64 (l0 m2 : Int), .int .u64 (l1 m2 : Int), .int .u64 (l2 m2 : Int), .int .u64 (l3 m2 : Int)])
         case h2n3 => exact rfl
         intro w' hw'
         go_simp
         exact kN2.out w'
       · refine op_q ?uvn4 ?h1n4 ?h2n4 ?h3n4
         case h1n4 => exact rfl
         case uvn4 => exact (.agg #[.bool (sg n1), .int .u64 (l0 n1 : Int), .int .u64 (l1 n1 : Int), .int .u64 (l2 n1 : Int), .int .u64 (l3 n1 : Int), .bool (sg m1), .int .u64 (l0 m1 : Int), .int .u64 (l1 m1 : Int), .int .u64 (l2 m1 : Int), .int .u64 (l3 m1 : Int)])
         case h2n4 => exact rfl
         intro w' hw'
         have P2 := P2.same hw' (by intro c hc; simp at hc; (try subst hc); (try simp only); omega)
         have xP2 := ten_cells P2
         go_simp
       · refine op_q ?uvn5 ?h1n5 ?h2n5 ?h3n5
         case h1n5 => exact rfl
         case uvn5 => exact (.agg #[.bool (sg u1), .int .u64 (l0 u1 : Int), .int .u64 (l1 u1 : Int), .int .u64 (l2 u1 : Int), .int .u64 (l3 u1 : Int), .bool (sg m1), .int .u64 (l0 m1 : Int), .int .u64 (l1 m1 : Int), .int .u64 (l2 m1 : Int), .int .u64 (l3 m1 : Int)])
         case h2n5 => exact rfl
         intro w' hw'
         go_simp
         exact kN1.out w'
       · refine op_q ?uvn6 ?h1n6 ?h2n6 ?h3n6
         case h1n6 => exact rfl
         case uvn6 => exact (.agg #[.bool (sg u), .int .u64 (l0 u : Int), .int .u64 (l1 u : Int), .int .u64 (l2 u : Int), .int .u64 (l3 u : Int), .bool (sg m), .int .u64 (l0 m : Int), .int .u64 (l1 m : Int), .int .u64 (l2 m : Int), .int .u64 (l3 m : Int)])
         case h2n6 => exact rfl
         intro w' hw'
         go_simp
         exact kB.out w'
       · refine op_q ?uvn7 ?h1n7 ?h2n7 ?h3n7
         case h1n7 => exact rfl
         case uvn7 => exact (.agg #[.bool (sg n), .int .u64 (l0 n : Int), .int .u64 (l1 n : Int), .int .u64 (l2 n : Int), .int .u64 (l3 n : Int), .bool (sg m), .int .u64 (l0 m : Int), .int .u64 (l1 m : Int), .int .u64 (l2 m : Int), .int .u64 (l3 m : Int)])
         case h2n7 => exact rfl
         intro w' hw'
         go_simp
         exact kN.out w'
       · refine op_so (c := 0) (T := ?uTn8) (p := ?upn8) (x := ?uxn8) ?ugn8 ?ufn8 ?uvn8 ?h1n8 ?h2n8 ?h3n8 ?h4n8 ?h5n8 ?h6n8 ?h7n8
         case h1n8 => exact rfl
         case h2n8 => exact rfl
         case ufn8 => exact (.cells #[.bool (sg n), .int .u64 (l0 n : Int), .int .u64 (l1 n : Int), .int .u64 (l2 n : Int), .int .u64 (l3 n : Int), .bool (sg m), .int .u64 (l0 m : Int), .int .u64 (l1 m : Int), .int .u64 (l2 m : Int), .int .u64 (l3 m : Int)] 40 (0, 0))
         case ugn8 => exact g0 + 1 + 1
         case uvn8 => exact (.agg #[.bool (sg n), .int .u64 (l0 n : Int), .int .u64 (l1 n : Int), .int .u64 (l2 n : Int), .int .u64 (l3 n : Int), .bool (sg m), .int .u64 (l0 m : Int), .int .u64 (l1 m : Int), .int .u64 (l2 m : Int), .int .u64 (l3 m : Int)])
         case h3n8 => exact rfl
         case h4n8 => exact rfl
         case h5n8 => go_simp; rfl
         case h6n8 => go_simp
         intro ρ w' hp hx hz
         exact store_ratio rfl hp hx (hz.trans P4)
       · refine op_q ?uvn9 ?h1n9 ?h2n9 ?h3n9
         case h1n9 => exact rfl
         case uvn9 => exact (.bool true)
         case h2n9 => exact rfl
         intro w' hw'
         go_simp
     · intro G W6 hI
       have hS := hI.same
       have P2 := P2.same hS (by intro c hc; simp at hc; (try subst hc); (try simp only); omega)
       have P3 := P3.same hS (by intro c hc; simp at hc; (try subst hc); (try simp only); omega)
       have hso : ∀ c, Tag.so c ∈ [.q, .q, .q, .q, .q, .q, .so 0, .q] → w.heap.size ≤ (fun _ => g0 + 1 + 1) c := by intro c hc; simp at hc; (try subst hc); (try simp only); omega
       have EE := hide (hS.ext' EE.out hso)
       have P4 : Box10 W6 (g0 + 1 + 1) (sg n) (l0 n) (l1 n) (l2 n) (l3 n) (sg m) (l0 m) (l1 m) (l2 m) (l3 m) := hI.olds' 6 (List.mem_range.2 (show 6 < 8 by decide)) 0 rfl
       clear hI hS
       simp only [putAll, slotV, ptrTo, Nat.zero_add, Nat.reduceAdd]
       go_wp2_with fail
       obtain ⟨xP40, xP41, xP42, xP43, xP44, xP45, xP46, xP47, xP48, xP49, xP4f0, xP4f1, xP4f2, xP4f3, xP4f4, xP4f5, xP4f6, xP4f7, xP4f8, xP4f9⟩ := ten_cells P4
       exact bodyPost_ret (v := .tuple #[.agg #[.bool (sg n), .int .u64 (l0 n : Int), .int .u64 (l1 n : Int), .int .u64 (l2 n : Int), .int .u64 (l3 n : Int), .bool (sg m), .int .u64 (l0 m : Int), .int .u64 (l1 m : Int), .int .u64 (l2 m : Int), .int .u64 (l3 m : Int)], .bool true]) (by simp [results, Try.results44, go_sem, xP40, xP41, xP42, xP43, xP44, xP45, xP46, xP47, xP48, xP49]) rfl ⟨rfl, EE.out⟩
   · obtain ⟨en, em⟩ := Best.unique h1.1 h2.1 B (Best.zero (by omega) (by omega))
     subst en em
     obtain ⟨i, hi, i1, i2, _⟩ := some_sign n2
     have hi0 : ¬ i < 0 := fun q => hq (i1.1 q)
     have kT : Hid (∀ w, Calls Try.prog 70 #[.agg #[.bool (sg n2), .int .u64 (l0 n2 : Int), .int .u64 (l1 n2 : Int), .int .u64 (l2 n2 : Int), .int .u64 (l3 n2 : Int)]] w (Ret (.int .i64 i) w)) := fun w => c_sign h2.fn hi w
     have kO : Hid (∀ w, Calls Try.prog 43 #[.int .i64 0] w (Ret (.agg #[.bool (sg 0), .int .u64 (l0 0 : Int), .int .u64 (l1 0 : Int), .int .u64 (l2 0 : Int), .int .u64 (l3 0 : Int), .bool (sg 1), .int .u64 (l0 1 : Int), .int .u64 (l1 1 : Int), .int .u64 (l2 1 : Int), .int .u64 (l3 1 : Int)]) w)) := fun w => g_of (by omega) (by omega) w
     clear h1 h2 hle B hp hq hi i1 i2
     obtain ⟨W0, hW0⟩ : ∃ W0, W0 = (((w.alloc (.cells #[.bool (sg n1), .int .u64 (l0 n1 : Int), .int .u64 (l1 n1 : Int), .int .u64 (l2 n1 : Int), .int .u64 (l3 n1 : Int), .bool (sg m1), .int .u64 (l0 m1 : Int), .int .u64 (l1 m1 : Int), .int .u64 (l2 m1 : Int), .int .u64 (l3 m1 : Int)] 40)).alloc (.cells #[.bool (sg n2), .int .u64 (l0 n2 : Int), .int .u64 (l1 n2 : Int), .int .u64 (l2 n2 : Int), .int .u64 (l3 n2 : Int), .bool (sg m2), .int .u64 (l0 m2 : Int), .int .u64 (l1 m2 : Int), .int .u64 (l2 m2 : Int), .int .u64 (l3 m2 : Int)] 40)).alloc (.cells #[.bool false, .int .u64 0, .int .u64 0, .int .u64 0, .int .u64 0, .bool false, .int .u64 0, .int .u64 0, .int .u64 0, .int .u64 0] 40)) := ⟨_, rfl⟩
     have H2 := three_boxes w (.cells #[.bool (sg n1), .int .u64 (l0 n1 : Int), .int .u64 (l1 n1 : Int), .int .u64 (l2 n1 : Int), .int .u64 (l3 n1 : Int), .bool (sg m1), .int .u64 (l0 m1 : Int), .int .u64 (l1 m1 : Int), .int .u64 (l2 m1 : Int), .int .u64 (l3 m1 : Int)] 40) (.cells #[.bool (sg n2), .int .u64 (l0 n2 : Int), .int .u64 (l1 n2 : Int), .int .u64 (l2 n2 : Int), .int .u64 (l3 n2 : Int), .bool (sg m2), .int .u64 (l0 m2 : Int), .int .u64 (l1 m2 : Int), .int .u64 (l2 m2 : Int), .int .u64 (l3 m2 : Int)] 40) (.cells #[.bool false, .int .u64 0, .int .u64 0, .int .u64 0, .int .u64 0, .bool false, .int .u64 0, .int .u64 0, .int .u64 0, .int .u64 0] 40)
     have EE0 : Ext w W0 := by rw [hW0]; exact (((ext_alloc _ _).trans (ext_alloc _ _)).trans (ext_alloc _ _))
     rw [← hW0] at H2
     have EE := hide EE0
     have HW := hide hW0
     obtain ⟨P2, P3, P4⟩ : Box10 W0 (w.heap.size) (sg n1) (l0 n1) (l1 n1) (l2 n1) (l3 n1) (sg m1) (l0 m1) (l1 m1) (l2 m1) (l3 m1) ∧ Box10 W0 ((w.heap.size + 1)) (sg n2) (l0 n2) (l1 n2) (l2 n2) (l3 n2) (sg m2) (l0 m2) (l1 m2) (l2 m2) (l3 m2) ∧ Box10 W0 ((w.heap.size + 1 + 1)) false 0 0 0 0 false 0 0 0 0 := H2
     clear hW0 EE0
     go_enter Try.func44, Try.ntmps44
     go_upto_region 1 with fail
     rw [← HW.out]
     clear HW
     have hg0 : w.heap.size ≤ w.heap.size := Nat.le_refl _
     obtain ⟨g0, hg⟩ : ∃ g, w.heap.size = g := ⟨_, rfl⟩
     rw [hg] at P2 P3 P4 ⊢
     replace hg0 : w.heap.size ≤ g0 := Nat.le_of_eq hg
     clear hg
     obtain ⟨xP20, xP21, xP22, xP23, xP24, xP25, xP26, xP27, xP28, xP29, -⟩ := ten_cells P2; obtain ⟨xP30, xP31, xP32, xP33, xP34, xP35, xP36, xP37, xP38, xP39, -⟩ := ten_cells P3; obtain ⟨xP40, xP41, xP42, xP43, xP44, xP45, xP46, xP47, xP48, xP49, xP4f0, xP4f1, xP4f2, xP4f3, xP4f4, xP4f5, xP4f6, xP4f7, xP4f8, xP4f9⟩ := ten_cells P4
     go_wp2_with (first
       | (go_at_call 50; (with_reducible refine (kV1.out _).mono ?_); rintro e w1 ⟨rfl, hE⟩; clear xP20 xP21 xP22 xP23 xP24 xP25 xP26 xP27 xP28 xP29 xP30 xP31 xP32 xP33 xP34 xP35 xP36 xP37 xP38 xP39; clear xP40 xP41 xP42 xP43 xP44 xP45 xP46 xP47 xP48 xP49 xP4f0 xP4f1 xP4f2 xP4f3 xP4f4 xP4f5 xP4f6 xP4f7 xP4f8 xP4f9; have P2 := P2.ext hE; have P3 := P3.ext hE; have P4 := P4.ext hE; have EE := hide (EE.out.trans hE); clear hE; obtain ⟨xP20, xP21, xP22, xP23, xP24, xP25, xP26, xP27, xP28, xP29, -⟩ := ten_cells P2; obtain ⟨xP30, xP31, xP32, xP33, xP34, xP35, xP36, xP37, xP38, xP39, -⟩ := ten_cells P3; obtain ⟨xP40, xP41, xP42, xP43, xP44, xP45, xP46, xP47, xP48, xP49, xP4f0, xP4f1, xP4f2, xP4f3, xP4f4, xP4f5, xP4f6, xP4f7, xP4f8, xP4f9⟩ := ten_cells P4)
       | (go_at_call 50; (with_reducible refine (kV2.out _).mono ?_); rintro e w2 ⟨rfl, hE⟩; clear xP20 xP21 xP22 xP23 xP24 xP25 xP26 xP27 xP28 xP29 xP30 xP31 xP32 xP33 xP34 xP35 xP36 xP37 xP38 xP39; clear xP40 xP41 xP42 xP43 xP44 xP45 xP46 xP47 xP48 xP49 xP4f0 xP4f1 xP4f2 xP4f3 xP4f4 xP4f5 xP4f6 xP4f7 xP4f8 xP4f9; have P2 := P2.ext hE; have P3 := P3.ext hE; have P4 := P4.ext hE; have EE := hide (EE.out.trans hE); clear hE; obtain ⟨xP20, xP21, xP22, xP23, xP24, xP25, xP26, xP27, xP28, xP29, -⟩ := ten_cells P2; obtain ⟨xP30, xP31, xP32, xP33, xP34, xP35, xP36, xP37, xP38, xP39, -⟩ := ten_cells P3; obtain ⟨xP40, xP41, xP42, xP43, xP44, xP45, xP46, xP47, xP48, xP49, xP4f0, xP4f1, xP4f2, xP4f3, xP4f4, xP4f5, xP4f6, xP4f7, xP4f8, xP4f9⟩ := ten_cells P4)
       | (go_at_call 51; (with_reducible refine (kC.out _).mono ?_); rintro e w3 ⟨rfl, hE⟩; clear xP20 xP21 xP22 xP23 xP24 xP25 xP26 xP27 xP28 xP29 xP30 xP31 xP32 xP33 xP34 xP35 xP36 xP37 xP38 xP39; clear xP40 xP41 xP42 xP43 xP44 xP45 xP46 xP47 xP48 xP49 xP4f0 xP4f1 xP4f2 xP4f3 xP4f4 xP4f5 xP4f6 xP4f7 xP4f8 xP4f9; have P2 := P2.ext hE; have P3 := P3.ext hE; have P4 := P4.ext hE; have EE := hide (EE.out.trans hE); clear hE; obtain ⟨xP20, xP21, xP22, xP23, xP24, xP25, xP26, xP27, xP28, xP29, -⟩ := ten_cells P2; obtain ⟨xP30, xP31, xP32, xP33, xP34, xP35, xP36, xP37, xP38, xP39, -⟩ := ten_cells P3; obtain ⟨xP40, xP41, xP42, xP43, xP44, xP45, xP46, xP47, xP48, xP49, xP4f0, xP4f1, xP4f2, xP4f3, xP4f4, xP4f5, xP4f6, xP4f7, xP4f8, xP4f9⟩ := ten_cells P4)
       | (go_at_call 70; (with_reducible refine (kS.out _).mono ?_); rintro e w4 ⟨rfl, hE⟩; clear xP20 xP21 xP22 xP23 xP24 xP25 xP26 xP27 xP28 xP29 xP30 xP31 xP32 xP33 xP34 xP35 xP36 xP37 xP38 xP39; clear xP40 xP41 xP42 xP43 xP44 xP45 xP46 xP47 xP48 xP49 xP4f0 xP4f1 xP4f2 xP4f3 xP4f4 xP4f5 xP4f6 xP4f7 xP4f8 xP4f9; have P2 := P2.ext hE; have P3 := P3.ext hE; have P4 := P4.ext hE; have EE := hide (EE.out.trans hE); clear hE; obtain ⟨xP20, xP21, xP22, xP23, xP24, xP25, xP26, xP27, xP28, xP29, -⟩ := ten_cells P2; obtain ⟨xP30, xP31, xP32, xP33, xP34, xP35, xP36, xP37, xP38, xP39, -⟩ := ten_cells P3; obtain ⟨xP40, xP41, xP42, xP43, xP44, xP45, xP46, xP47, xP48, xP49, xP4f0, xP4f1, xP4f2, xP4f3, xP4f4, xP4f5, xP4f6, xP4f7, xP4f8, xP4f9⟩ := ten_cells P4)
       | (go_at_call 70; (with_reducible refine (kT.out _).mono ?_); rintro e w5 ⟨rfl, hE⟩; clear xP20 xP21 xP22 xP23 xP24 xP25 xP26 xP27 xP28 xP29 xP30 xP31 xP32 xP33 xP34 xP35 xP36 xP37 xP38 xP39; clear xP40 xP41 xP42 xP43 xP44 xP45 xP46 xP47 xP48 xP49 xP4f0 xP4f1 xP4f2 xP4f3 xP4f4 xP4f5 xP4f6 xP4f7 xP4f8 xP4f9; have P2 := P2.ext hE; have P3 := P3.ext hE; have P4 := P4.ext hE; have EE := hide (EE.out.trans hE); clear hE; obtain ⟨xP20, xP21, xP22, xP23, xP24, xP25, xP26, xP27, xP28, xP29, -⟩ := ten_cells P2; obtain ⟨xP30, xP31, xP32, xP33, xP34, xP35, xP36, xP37, xP38, xP39, -⟩ := ten_cells P3; obtain ⟨xP40, xP41, xP42, xP43, xP44, xP45, xP46, xP47, xP48, xP49, xP4f0, xP4f1, xP4f2, xP4f3, xP4f4, xP4f5, xP4f6, xP4f7, xP4f8, xP4f9⟩ := ten_cells P4)
       | (go_at_call 43; (with_reducible refine (kO.out _).mono ?_); rintro e w6 ⟨rfl, hE⟩; clear xP20 xP21 xP22 xP23 xP24 xP25 xP26 xP27 xP28 xP29 xP30 xP31 xP32 xP33 xP34 xP35 xP36 xP37 xP38 xP39; clear xP40 xP41 xP42 xP43 xP44 xP45 xP46 xP47 xP48 xP49 xP4f0 xP4f1 xP4f2 xP4f3 xP4f4 xP4f5 xP4f6 xP4f7 xP4f8 xP4f9; have P2 := P2.ext hE; have P3 := P3.ext hE; have P4 := P4.ext hE; have EE := hide (EE.out.trans hE); clear hE; obtain ⟨xP20, xP21, xP22, xP23, xP24, xP25, xP26, xP27, xP28, xP29, -⟩ := ten_cells P2; obtain ⟨xP30, xP31, xP32, xP33, xP34, xP35, xP36, xP37, xP38, xP39, -⟩ := ten_cells P3; obtain ⟨xP40, xP41, xP42, xP43, xP44, xP45, xP46, xP47, xP48, xP49, xP4f0, xP4f1, xP4f2, xP4f3, xP4f4, xP4f5, xP4f6, xP4f7, xP4f8, xP4f9⟩ := ten_cells P4))
     exact bodyPost_ret (v := .tuple #[.agg #[.bool (sg 0), .int .u64 (l0 0 : Int), .int .u64 (l1 0 : Int), .int .u64 (l2 0 : Int), .int .u64 (l3 0 : Int), .bool (sg 1), .int .u64 (l0 1 : Int), .int .u64 (l1 1 : Int), .int .u64 (l2 1 : Int), .int .u64 (l3 1 : Int)], .bool true]) (by simp [results, Try.results44, go_sem, xP40, xP41, xP42, xP43, xP44, xP45, xP46, xP47, xP48, xP49]) rfl ⟨rfl, ext_ten EE.out (by omega) _ _ _ _ _ _ _ _ _ _⟩
end
section
open Go Go.RowKit
theorem neg_iff {s : Bool} {a b c d : Nat} {z : Int} (h : IsC s a b c d z) : s = decide (z < 0) := by
 obtain ⟨⟨h1, h2, h3, h4, h5⟩, h6⟩ := h
 cases s
 · simp at h5; symm; rw [decide_eq_false_iff_not]; omega
 · have := h6 rfl; simp at h5; symm; rw [decide_eq_true_iff]; omega
theorem make_parts {s t : Bool} {a b c d e f g h : Nat} {x y : Int} (hx : IsC s a b c d x) (hy : IsC t e f g h y) (hy0 : y ≠ 0) :
   numR x y = (if (s != t) = true then -((x.natAbs : Int) / ((Int.gcd (x.natAbs : Int) (y.natAbs : Int) : Nat) : Int)) else (x.natAbs : Int) / ((Int.gcd (x.natAbs : Int) (y.natAbs : Int) : Nat) : Int)) ∧ denR x y = (y.natAbs : Int) / ((Int.gcd (x.natAbs : Int) (y.natAbs : Int) : Nat) : Int) ∧ (0 : Int) < ((Int.gcd (x.natAbs : Int) (y.natAbs : Int) : Nat) : Int) := by
 rw [neg_iff hx, neg_iff hy]
 have e1 : Int.gcd (x.natAbs : Int) (y.natAbs : Int) = Int.gcd x y := by simp [Int.gcd]
 rw [e1]
 have hg : 0 < Int.gcd x y := Int.gcd_pos_of_ne_zero_right x hy0
 obtain ⟨u, hu⟩ := Int.gcd_dvd_left x y
 obtain ⟨v, hv⟩ := Int.gcd_dvd_right x y
 obtain ⟨G, hG⟩ : ∃ G : Int, ((Int.gcd x y : Nat) : Int) = G := ⟨_, rfl⟩
 unfold numR denR
 rw [hG] at hu hv ⊢
 have hG0 : 0 < G := by omega
 have hGn : G ≠ 0 := by omega
 have hnx : -x = G * (-u) := by rw [Int.mul_neg, ← hu]
 have hny : -y = G * (-v) := by rw [Int.mul_neg, ← hv]
 have q1 : x / G = u := by rw [hu]; exact Int.mul_ediv_cancel_left _ hGn
 have q2 : y / G = v := by rw [hv]; exact Int.mul_ediv_cancel_left _ hGn
 have q3 : (-x) / G = -u := by rw [hnx]; exact Int.mul_ediv_cancel_left _ hGn
 have q4 : (-y) / G = -v := by rw [hny]; exact Int.mul_ediv_cancel_left _ hGn
 have ax : (x.natAbs : Int) = if x < 0 then -x else x := by split <;> omega
 have ay : (y.natAbs : Int) = if y < 0 then -y else y := by split <;> omega
 rw [ax, ay]
 refine ⟨?_, ?_, hG0⟩
 · by_cases h1 : x < 0 <;> by_cases h2 : y < 0 <;> simp [h1, h2, q1, q2, q3, q4]
 · by_cases h2 : y < 0 <;> simp [h2]
theorem valid_make (x y : Int) (hy0 : y ≠ 0) : ∀ (s : Bool) (a b c d : Nat) (t : Bool) (e f g h : Nat), IsC s a b c d (numR x y) → IsC t e f g h (denR x y) → decide (RatOk s (numR x y) t (denR x y)) = decide ((numR x y).natAbs < 170141183460469231731687303715884105728 ∧ (denR x y).natAbs < 170141183460469231731687303715884105728) := by
 intro s a b c d t e f g h h1 h2
 obtain ⟨p1, p2, _⟩ := red_parts x y hy0
 rw [decide_eq_decide]
 constructor
 · intro q; exact ⟨q.2.2.2.1, q.2.2.2.2.1⟩
 · intro q; exact ⟨h1.2, h2.2, p1, q.1, q.2, p2⟩
end
end Go.Proofs.Ythlbkidgdngblaa
