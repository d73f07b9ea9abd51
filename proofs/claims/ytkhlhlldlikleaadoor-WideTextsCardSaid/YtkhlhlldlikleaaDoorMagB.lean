/- Words in memory: append, and add of the reference of layer 2. Conditions: the slices are words that lie in memory, at most 1000 of them. -/
import Derived.Test.YtkhlhlldlikleaaDoorMagA
namespace Go.Proofs.YtkhlhlldlikleaaDoor
set_option linter.unusedVariables false
set_option linter.unusedSimpArgs false
open Go Go.RowKit
theorem wd_len (l : List Nat) : (wd l).length = l.length := by simp [wd]
theorem wd_append (a b : List Nat) : wd (a ++ b) = wd a ++ wd b := by simp [wd]
theorem w64_append {a b : List Nat} (h : W64 a) (k : W64 b) : W64 (a ++ b) := fun x hx => by rcases List.mem_append.1 hx with h1 | h1; exact h x h1; exact k x h1
theorem ext_grown {w w' : World} {row : Option Nat} (h : w.grownBy w' row) (hr : ∀ k, row = some k → w.heap.size ≤ k) : Ext w w' := (Below.refl _ _).grown h (Nat.le_refl _) hr
/-- append of words to words of one's own. -/
theorem append_words {w : World} {ops : Array Oper} {rest : List Oper} {o : Oper} {a : Act} {Q : Exit → Act → World → Prop} (hgd : o.guard = none) (s x : Operand)
    (ho : o.op = .call { callee := .builtin .append, args := #[s, x], argTypes := #[72, 72] })
    (B C : Nat) (v u : Value) (l m : List Nat) (hs : a.eval s = v) (hx : a.eval x = u) (h : Words B w v l) (k : Words C w u m) (hB : B ≤ w.heap.size) (hl : l.length + m.length ≤ 1000000) (W : World) (hW : Ext W w) (hWB : W.heap.size ≤ B)
    (hK : ∀ v' w', Words B w' v' (l ++ m) → Ext W w' → wpList Tryd.prog ops Q rest (a.put o.dst v') w') : wpList Tryd.prog ops Q (o :: rest) a w := by
  obtain ⟨i0, hi, hz0, hz1, hz2⟩ := info_parts info_u64
  have hlen : (l ++ m).length = l.length + m.length := by simp
  rcases k.1.2 with ⟨rfl, h0⟩ | ⟨g, cap, cur, rfl, hg, hh, r⟩
  · have hm : m = [] := List.eq_nil_of_length_eq_zero (by omega)
    subst hm
    exact wpList_append_own_none hgd s x 72 ho B 22 i0 1 Tryd.underlying72 hi v l.length (wd l) hs h.1 hx (hK _ _ (by simpa using h) hW)
  · have hc := k.1
    refine wpList_append_own w hgd s x 72 ho B 22 i0 (.int .u64 0) 1 8 Tryd.underlying72 hi hz0 hz1 hz2 rfl (by decide) v l.length (wd l) hs h.1 ⟨g, 0, none⟩ m.length cap (wd m) hx (by simp [wd]) ?_ ?_ (by unfold maxLen; omega) (by omega) hB ?_
    · intro j y hj
      have hj2 : j < m.length := by
        have := (List.getElem?_eq_some_iff.1 hj).1; simpa [wd] using this
      rw [← hj]
      rw [← hc.cellAt j (by omega)]
      by_cases hj0 : j = 0
      · subst hj0; simp [Addr.add]
      · simp [Addr.add, hj0]
    · intro y hy
      simp only [wd, List.mem_map] at hy
      obtain ⟨z, _, rfl⟩ := hy
      rfl
    · intro v' w' h1 h2 _
      exact hK v' w' ⟨by rw [hlen, wd_append]; exact h1, w64_append h.2 k.2⟩ (hW.grown h2 hW.size fun b hb => Nat.le_trans hWB (h.1.lt b hb).1)
theorem words_empty (B : Nat) (w : World) (g : Nat) (hg : g = w.heap.size) (hB : B ≤ w.heap.size) : Words B (w.alloc (.cells #[] 22)) (.slice (some ⟨g, 0, none⟩) 0 0) [] :=
  words_fresh B w #[] g 0 0 [] rfl (by intro x hx; simp at hx) hB hg (by simp) (by unfold maxLen; omega) (by simp) (by simp [wd])
theorem Words.at {B : Nat} {w : World} {a : Option Addr} {n cap : Nat} {l : List Nat} (h : Words B w (.slice a n cap) l) (i : Nat) (hi : i < l.length) :
    ∃ g, a = some ⟨g, 0, none⟩ ∧ B ≤ g ∧ g < w.heap.size ∧ w.cell? ⟨g, i, none⟩ = some (.int .u64 (l[i] : Int)) ∧ w.frozen? ⟨g, i, none⟩ = false := by
  obtain ⟨g, cap', e, _, _, h3, h4, hc, hf⟩ := h.pos _ rfl (by omega)
  injection e with e1 e2 e3
  exact ⟨g, e1, h3, h4, hc i hi, hf i⟩
theorem Words.set {B : Nat} {w : World} {g n cap : Nat} {l : List Nat} (h : Words B w (.slice (some ⟨g, 0, none⟩) n cap) l) (hn : l.length = n) (k x : Nat) (hx : x < 18446744073709551616) : Words B (w.setCell ⟨g, k, none⟩ (.int .u64 (x : Int))) (.slice (some ⟨g, 0, none⟩) n cap) (l.set k x) := by
  subst hn
  have h1 := (h.1.stored k (.int .u64 (x : Int))).1
  refine ⟨?_, ?_⟩
  · rw [List.length_set, show wd (l.set k x) = (wd l).set k (.int .u64 (x : Int)) by simp [wd, List.map_set]]; exact h1
  · intro y hy
    rcases List.mem_or_eq_of_mem_set hy with h2 | h2
    · exact h.2 y h2
    · omega
theorem ext_set {W w : World} (h : Ext W w) {g : Nat} (hg : W.heap.size ≤ g) (k : Nat) (u : Value) : Ext W (w.setCell ⟨g, k, none⟩ u) := Below.setCell (p := ⟨g, k, none⟩) h hg u
theorem val_set_take (l : List Nat) (k x : Nat) (h : k < l.length) : val ((l.set k x).take (k + 1)) = val (l.take k) + 18446744073709551616 ^ k * x := by
  rw [val_take_succ _ k (by simpa using h), List.getElem_set_self, List.take_set_of_le (Nat.le_refl _)]
theorem drop_set (l : List Nat) (k x : Nat) : (l.set k x).drop (k + 1) = l.drop (k + 1) := by rw [List.drop_set_of_lt (by omega)]
theorem val_take_getD (l : List Nat) (k : Nat) : val (l.take (k + 1)) = val (l.take k) + 18446744073709551616 ^ k * l.getD k 0 := by
  by_cases h : k < l.length
  · rw [val_take_succ l k h]; simp [List.getD, h]
  · rw [List.take_of_length_le (by omega), List.take_of_length_le (by omega)]; simp [List.getD, show l.length ≤ k by omega]
theorem drop_get {l m : List Nat} {k : Nat} (h : l.drop k = m.drop k) (h1 : k < l.length) (h2 : k < m.length) : l[k] = m[k] ∧ l.drop (k + 1) = m.drop (k + 1) := by
  rw [List.drop_eq_getElem_cons h1, List.drop_eq_getElem_cons h2] at h
  injection h with h3 h4
  exact ⟨h3, h4⟩
/-- What has been added so far. -/
def AddRel (p q os : List Nat) (k c : Nat) : Prop := os.length = p.length ∧ os.drop k = p.drop k ∧ c ≤ 1 ∧ val (os.take k) + 18446744073709551616 ^ k * c = val (p.take k) + val (q.take k)
theorem AddRel.step {p q os : List Nat} {k c : Nat} (h : AddRel p q os k c) (hk : k < p.length) (hp : W64 p) (hq : W64 q) :
    AddRel p q (os.set k ((p[k] + q.getD k 0 + c) % 18446744073709551616)) (k + 1) ((p[k] + q.getD k 0 + c) / 18446744073709551616) := by
  obtain ⟨h1, h2, h3, h4⟩ := h
  have hx := w64_get hp k hk
  have hy : q.getD k 0 < 18446744073709551616 := by
    by_cases hkq : k < q.length
    · have := w64_get hq k hkq; simp [List.getD, hkq]; exact this
    · simp [List.getD, show q.length ≤ k by omega]
  refine ⟨by simpa using h1, by rw [drop_set]; exact (drop_get h2 (by omega) hk).2, by omega, ?_⟩
  rw [val_set_take _ _ _ (by omega), val_take_succ p k hk, val_take_getD q k, Nat.pow_succ]
  generalize p[k] = x at *
  generalize q.getD k 0 = y at *
  have e := Nat.div_add_mod (x + y + c) 18446744073709551616
  generalize (x + y + c) / 18446744073709551616 = d at *
  generalize (x + y + c) % 18446744073709551616 = r at *
  grind
theorem AddRel.done {p q os : List Nat} {c : Nat} (h : AddRel p q os p.length c) (hq : q.length ≤ p.length) : val (os ++ [c]) = val p + val q := by
  obtain ⟨h1, _, _, h4⟩ := h
  rw [List.take_of_length_le (by omega), List.take_length, List.take_of_length_le hq] at h4
  rw [val_snoc, h1]; exact h4
theorem add64_run0 (x c : Nat) (hc : c ≤ 1) (w : World) : (callFunc 85 #[.int .u64 x, .int .u64 0, .int .u64 c]).run Tryd.prog w =
      .ok (.value (.tuple #[.int .u64 (((x + c) % 18446744073709551616 : Nat) : Int), .int .u64 (((x + c) / 18446744073709551616 : Nat) : Int)])) w := add64_run x 0 c hc w
theorem words_one (B : Nat) (w : World) (c g : Nat) (hg : g = w.heap.size) (hB : B ≤ w.heap.size) (hc : c < 18446744073709551616) : Words B (w.alloc (.cells #[.int .u64 (c : Int)] 22)) (.slice (some ⟨g, 0, none⟩) 1 1) [c] :=
  words_fresh B w #[.int .u64 (c : Int)] g 1 1 [c] rfl (by intro x hx; simp at hx; omega) hB hg (by simp) (by unfold maxLen; omega) (by simp) (by simp [wd])
theorem add_any (B C D : Nat) (u v : Value) (n m : Nat) (w : World) (h : Words C w u (limbs n)) (k : Words D w v (limbs m)) (hB : B ≤ w.heap.size) (hn : (limbs n).length ≤ 1000) (hm : (limbs m).length ≤ 1000) (hlt : ¬ (limbs n).length < (limbs m).length) :
    Calls Tryd.prog 59 #[u, v] w (NewWords B (n + m) w) := by
  obtain ⟨la, hla⟩ : ∃ la, (limbs n).length = la := ⟨_, rfl⟩
  obtain ⟨lb, hlb⟩ : ∃ lb, (limbs m).length = lb := ⟨_, rfl⟩
  obtain ⟨a, ca, rfl, a1, a2, _⟩ := h.shape la hla
  obtain ⟨b, cb, rfl, b1, b2, _⟩ := k.shape lb hlb
  rw [hla] at hn hlt
  rw [hlb] at hm hlt
  have HA := hide hla
  have HB := hide hlb
  have KA := hide h
  have KB := hide k
  have HE := hide (words_empty w.heap.size w w.heap.size rfl (Nat.le_refl _))
  clear hla hlb h k
  have hE0 := hide (ext_alloc w (.cells #[] 22))
  have hS := hide (Nat.le_succ w.heap.size)
  go_enter Tryd.func59, Tryd.ntmps59
  go_wp2_with (at_builtin; refine append_words rfl (.tmp 16) (.tmp 17) rfl w.heap.size C _ _ [] (limbs n) rfl rfl HE.out (KA.out.ext hE0.out) (by simp) (by rw [HA.out]; simp; omega) w hE0.out (Nat.le_refl _) ?_; intro v1 w1 hv1 hE1)
  have HV := hide hv1
  obtain ⟨ao, cap1, rfl, _, c2, _⟩ := hv1.shape la (by simpa using HA.out)
  clear hv1
  go_loopw [6, 7] (fun t i wr => ∃ (k c : Nat) (os : List Nat), i = .int .i64 k ∧ t = .int .u64 c ∧ k ≤ la ∧ c ≤ 1 ∧ Hid (AddRel (limbs n) (limbs m) os k c) ∧ Words w.heap.size wr (.slice ao la cap1) os ∧ Ext w wr) (fun _ i _ => la - (intOf i).toNat)
  case atStart => exact ⟨0, 0, limbs n, rfl, rfl, by omega, by omega, ⟨rfl, rfl, by omega, by simp [val]⟩, by simpa using HV.out, hE1⟩
  case round =>
    obtain ⟨k, c, os, rfl, rfl, hk, hc, HR, hW, hE⟩ := hrel
    have hol : os.length = la := by rw [HR.out.1]; exact HA.out
    have HO := hide hol
    clear hol
    by_cases hkl : k < la
    · obtain ⟨g, rfl, hg0, hg, cg, fg⟩ := hW.at k (by rw [HO.out]; exact hkl)
      obtain ⟨x, hx⟩ : ∃ x, os[k]'(by rw [HO.out]; exact hkl) = x := ⟨_, rfl⟩
      rw [hx] at cg
      have HX : Hid (x = (limbs n)[k]'(by rw [HA.out]; exact hkl)) := by rw [← hx]; exact (drop_get HR.out.2.1 (by rw [HO.out]; exact hkl) (by rw [HA.out]; exact hkl)).1
      clear hx
      by_cases hkb : k < lb
      · obtain ⟨gb, rfl, _, hgb, cb, _⟩ := KB.out.at k (by rw [HB.out]; exact hkb)
        have cb' : wr.cell? ⟨gb, k, none⟩ = _ := (hE.cell (p := ⟨gb, k, none⟩) hgb).trans cb
        obtain ⟨y, hy⟩ : ∃ y, (limbs m)[k]'(by rw [HB.out]; exact hkb) = y := ⟨_, rfl⟩
        rw [hy] at cb'
        clear cb
        have HY : Hid ((limbs m).getD k 0 = y) := by rw [← hy]; simp [Hid, List.getD, show k < (limbs m).length by rw [HB.out]; exact hkb]
        clear hy
        have hadd := add64_run x y c hc
        have HS : Hid (AddRel (limbs n) (limbs m) (os.set k ((x + y + c) % 18446744073709551616)) (k + 1) ((x + y + c) / 18446744073709551616)) := by
          have := HR.out.step (by rw [HA.out]; exact hkl) (limbs_w n) (limbs_w m)
          rw [← HX.out, HY.out] at this
          exact this
        have HW2 := hW.set HO.out k ((x + y + c) % 18446744073709551616) (by omega)
        rw [show (((x + y + c) % 18446744073709551616 : Nat) : Int) = ((x : Int) + y + c) % 18446744073709551616 by omega] at HW2
        have HW := hide HW2
        clear HW2
        go_wp2
        exact ⟨⟨k + 1, _, _, by go_num, by go_num, by omega, HS.out.2.2.1, HS, HW.out, ext_set hE hg0 _ _⟩, by simp [intOf]; omega⟩
      · have HY : Hid ((limbs m).getD k 0 = 0) := by simp [Hid, List.getD, show (limbs m).length ≤ k by rw [HB.out]; omega]
        have hadd := add64_run0 x c hc
        have HS : Hid (AddRel (limbs n) (limbs m) (os.set k ((x + 0 + c) % 18446744073709551616)) (k + 1) ((x + 0 + c) / 18446744073709551616)) := by
          have := HR.out.step (by rw [HA.out]; exact hkl) (limbs_w n) (limbs_w m)
          rw [← HX.out, HY.out] at this
          exact this
        have HW2 := hW.set HO.out k ((x + 0 + c) % 18446744073709551616) (by omega)
        rw [show (((x + 0 + c) % 18446744073709551616 : Nat) : Int) = ((x : Int) + c) % 18446744073709551616 by omega] at HW2
        have HW := hide HW2
        clear HW2
        go_wp2
        exact ⟨⟨k + 1, _, _, by go_num, by go_num, by omega, HS.out.2.2.1, HS, HW.out, ext_set hE hg0 _ _⟩, by simp [intOf]; omega⟩
    · obtain rfl : k = la := by omega
      have H1 : Hid (val (os ++ [c]) = n + m) := by
        have h1 := HR.out
        rw [show k = (limbs n).length from HA.out.symm] at h1
        have := h1.done (by rw [HA.out, HB.out]; omega)
        rwa [val_limbs, val_limbs] at this
      have H2 := hide (words_one wr.heap.size wr c wr.heap.size rfl (Nat.le_refl _) (by omega))
      have hE2 := hide (ext_alloc wr (.cells #[.int .u64 (c : Int)] 22))
      go_wp2_with (first
        | (at_builtin; refine append_words rfl (.tmp 46) (.tmp 48) rfl w.heap.size wr.heap.size _ _ os [c] rfl rfl (hW.ext hE2.out) H2.out (Nat.le_trans hE.size hE2.out.size) (by rw [HO.out]; simp; omega) w (hE.trans hE2.out) (Nat.le_refl _) ?_; intro v2 w2 hv2 hE3)
        | (go_at_call 81; refine (trim_any _ _ _ _ hv2).mono ?_; rintro e w' ⟨v3, rfl, hv3, rfl⟩))
      go_ret
      exact ⟨_, rfl, by rw [← H1.out]; exact hv3.base hB, hE3⟩
theorem add_sw (B C D : Nat) (u v : Value) (n m : Nat) (w : World) (h : Words C w u (limbs n)) (k : Words D w v (limbs m)) (hB : B ≤ w.heap.size) (hn : (limbs n).length ≤ 1000) (hm : (limbs m).length ≤ 1000) (hlt : (limbs m).length < (limbs n).length) :
    Calls Tryd.prog 59 #[v, u] w (NewWords B (n + m) w) := by
  obtain ⟨la, hla⟩ : ∃ la, (limbs n).length = la := ⟨_, rfl⟩
  obtain ⟨lb, hlb⟩ : ∃ lb, (limbs m).length = lb := ⟨_, rfl⟩
  obtain ⟨a, ca, rfl, a1, a2, _⟩ := h.shape la hla
  obtain ⟨b, cb, rfl, b1, b2, _⟩ := k.shape lb hlb
  rw [hla] at hn hlt
  rw [hlb] at hm hlt
  have HA := hide hla
  have HB := hide hlb
  have KA := hide h
  have KB := hide k
  have HE := hide (words_empty w.heap.size w w.heap.size rfl (Nat.le_refl _))
  clear hla hlb h k
  have hE0 := hide (ext_alloc w (.cells #[] 22))
  have hS := hide (Nat.le_succ w.heap.size)
  go_enter Tryd.func59, Tryd.ntmps59
  go_wp2_with (at_builtin; refine append_words rfl (.tmp 16) (.tmp 17) rfl w.heap.size C _ _ [] (limbs n) rfl rfl HE.out (KA.out.ext hE0.out) (by simp) (by rw [HA.out]; simp; omega) w hE0.out (Nat.le_refl _) ?_; intro v1 w1 hv1 hE1)
  have HV := hide hv1
  obtain ⟨ao, cap1, rfl, _, c2, _⟩ := hv1.shape la (by simpa using HA.out)
  clear hv1
  go_loopw [6, 7] (fun t i wr => ∃ (k c : Nat) (os : List Nat), i = .int .i64 k ∧ t = .int .u64 c ∧ k ≤ la ∧ c ≤ 1 ∧ Hid (AddRel (limbs n) (limbs m) os k c) ∧ Words w.heap.size wr (.slice ao la cap1) os ∧ Ext w wr) (fun _ i _ => la - (intOf i).toNat)
  case atStart => exact ⟨0, 0, limbs n, rfl, rfl, by omega, by omega, ⟨rfl, rfl, by omega, by simp [val]⟩, by simpa using HV.out, hE1⟩
  case round =>
    obtain ⟨k, c, os, rfl, rfl, hk, hc, HR, hW, hE⟩ := hrel
    have hol : os.length = la := by rw [HR.out.1]; exact HA.out
    have HO := hide hol
    clear hol
    by_cases hkl : k < la
    · obtain ⟨g, rfl, hg0, hg, cg, fg⟩ := hW.at k (by rw [HO.out]; exact hkl)
      obtain ⟨x, hx⟩ : ∃ x, os[k]'(by rw [HO.out]; exact hkl) = x := ⟨_, rfl⟩
      rw [hx] at cg
      have HX : Hid (x = (limbs n)[k]'(by rw [HA.out]; exact hkl)) := by rw [← hx]; exact (drop_get HR.out.2.1 (by rw [HO.out]; exact hkl) (by rw [HA.out]; exact hkl)).1
      clear hx
      by_cases hkb : k < lb
      · obtain ⟨gb, rfl, _, hgb, cb, _⟩ := KB.out.at k (by rw [HB.out]; exact hkb)
        have cb' : wr.cell? ⟨gb, k, none⟩ = _ := (hE.cell (p := ⟨gb, k, none⟩) hgb).trans cb
        obtain ⟨y, hy⟩ : ∃ y, (limbs m)[k]'(by rw [HB.out]; exact hkb) = y := ⟨_, rfl⟩
        rw [hy] at cb'
        clear cb
        have HY : Hid ((limbs m).getD k 0 = y) := by rw [← hy]; simp [Hid, List.getD, show k < (limbs m).length by rw [HB.out]; exact hkb]
        clear hy
        have hadd := add64_run x y c hc
        have HS : Hid (AddRel (limbs n) (limbs m) (os.set k ((x + y + c) % 18446744073709551616)) (k + 1) ((x + y + c) / 18446744073709551616)) := by
          have := HR.out.step (by rw [HA.out]; exact hkl) (limbs_w n) (limbs_w m)
          rw [← HX.out, HY.out] at this
          exact this
        have HW2 := hW.set HO.out k ((x + y + c) % 18446744073709551616) (by omega)
        rw [show (((x + y + c) % 18446744073709551616 : Nat) : Int) = ((x : Int) + y + c) % 18446744073709551616 by omega] at HW2
        have HW := hide HW2
        clear HW2
        go_wp2
        exact ⟨⟨k + 1, _, _, by go_num, by go_num, by omega, HS.out.2.2.1, HS, HW.out, ext_set hE hg0 _ _⟩, by simp [intOf]; omega⟩
      · have HY : Hid ((limbs m).getD k 0 = 0) := by simp [Hid, List.getD, show (limbs m).length ≤ k by rw [HB.out]; omega]
        have hadd := add64_run0 x c hc
        have HS : Hid (AddRel (limbs n) (limbs m) (os.set k ((x + 0 + c) % 18446744073709551616)) (k + 1) ((x + 0 + c) / 18446744073709551616)) := by
          have := HR.out.step (by rw [HA.out]; exact hkl) (limbs_w n) (limbs_w m)
          rw [← HX.out, HY.out] at this
          exact this
        have HW2 := hW.set HO.out k ((x + 0 + c) % 18446744073709551616) (by omega)
        rw [show (((x + 0 + c) % 18446744073709551616 : Nat) : Int) = ((x : Int) + c) % 18446744073709551616 by omega] at HW2
        have HW := hide HW2
        clear HW2
        go_wp2
        exact ⟨⟨k + 1, _, _, by go_num, by go_num, by omega, HS.out.2.2.1, HS, HW.out, ext_set hE hg0 _ _⟩, by simp [intOf]; omega⟩
    · obtain rfl : k = la := by omega
      have H1 : Hid (val (os ++ [c]) = n + m) := by
        have h1 := HR.out
        rw [show k = (limbs n).length from HA.out.symm] at h1
        have := h1.done (by rw [HA.out, HB.out]; omega)
        rwa [val_limbs, val_limbs] at this
      have H2 := hide (words_one wr.heap.size wr c wr.heap.size rfl (Nat.le_refl _) (by omega))
      have hE2 := hide (ext_alloc wr (.cells #[.int .u64 (c : Int)] 22))
      go_wp2_with (first
        | (at_builtin; refine append_words rfl (.tmp 46) (.tmp 48) rfl w.heap.size wr.heap.size _ _ os [c] rfl rfl (hW.ext hE2.out) H2.out (Nat.le_trans hE.size hE2.out.size) (by rw [HO.out]; simp; omega) w (hE.trans hE2.out) (Nat.le_refl _) ?_; intro v2 w2 hv2 hE3)
        | (go_at_call 81; refine (trim_any _ _ _ _ hv2).mono ?_; rintro e w' ⟨v3, rfl, hv3, rfl⟩))
      go_ret
      exact ⟨_, rfl, by rw [← H1.out]; exact hv3.base hB, hE3⟩
theorem ref_add (B C D : Nat) (u v : Value) (n m : Nat) (w : World) (h : Words C w u (limbs n)) (k : Words D w v (limbs m)) (hB : B ≤ w.heap.size) (hn : (limbs n).length ≤ 1000) (hm : (limbs m).length ≤ 1000) :
    Calls Tryd.prog 59 #[u, v] w (NewWords B (n + m) w) := by
  by_cases hl : (limbs n).length < (limbs m).length
  · rw [Nat.add_comm]; exact add_sw B D C v u m n w k h hB hm hn hl
  · exact add_any B C D u v n m w h k hB hn hm hl
end Go.Proofs.YtkhlhlldlikleaaDoor
