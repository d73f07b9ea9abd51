/- Words in memory: trim, compare and of, of the reference of layer 2. Conditions: the slices are words that lie in memory. -/
import Derived.Test.YtkhlhlldlikleaaDoorProg
import Derived.Test.YtkhlhlldlikleaaDoorNat
import Derived.Test.YtkhlhlldlikleaaDoorPlain
import Derived.WalkSmall
import Derived.Shelf.Spec.BitsCarry
import Derived.Laws.AppendOwnNone
import Derived.Deep.QuietTactic
import Derived.BigQuiet
namespace Go.Proofs.YtkhlhlldlikleaaDoor
set_option linter.unusedVariables false
set_option linter.unusedSimpArgs false
open Go Go.RowKit
theorem info_u64 : (Tryd.prog.info? 22).map (fun i => (i.zero, i.size, i.bytes)) = some (some (.int .u64 0), 1, 8) := by kernel_rfl

def wd (l : List Nat) : List Value := l.map fun x : Nat => Value.int .u64 (x : Int)
/-- The slice v owns the words l: it is nil, or begins at the head of a block from B on. -/
def Words (B : Nat) (w : World) (v : Value) (l : List Nat) : Prop := w.ownsRow B 22 1 v l.length (wd l) ∧ W64 l
def lenOf : Value → Nat | .slice _ n _ => n | _ => 0

theorem rb1 {k : IntKind} {a a' : Int} (h1 : a = a') : Ending.returned (Value.int k a) = .returned (.int k a') := by rw [h1]
theorem hide {p : Prop} (h : p) : Hid p := h
theorem nil_or_snoc {α : Type} (l : List α) : l = [] ∨ ∃ r x, l = r ++ [x] := by
  rcases List.eq_nil_or_concat l with h | ⟨r, x, h⟩
  · exact Or.inl h
  · exact Or.inr ⟨r, x, by rw [h, List.concat_eq_append]⟩
theorem Words.nil {B : Nat} {w : World} {v : Value} (h : Words B w v []) : ∃ a cap, v = .slice a 0 cap ∧ cap ≤ 9223372036854775807 := by
  obtain ⟨⟨_, h1 | ⟨g, cap, cur, e, h1⟩⟩, _⟩ := h
  · exact ⟨_, _, h1.1, by omega⟩
  · refine ⟨_, _, e, ?_⟩; have := h1.2.2.2.1; unfold maxLen at this; omega
theorem Words.pos {B : Nat} {w : World} {v : Value} {l : List Nat} (h : Words B w v l) (n : Nat) (hl : l.length = n) (h0 : 0 < n) : ∃ g cap, v = .slice (some ⟨g, 0, none⟩) n cap ∧ n ≤ cap ∧ cap ≤ 9223372036854775807 ∧ B ≤ g ∧ g < w.heap.size ∧
    (∀ i (hi : i < l.length), w.cell? ⟨g, i, none⟩ = some (.int .u64 (l[i] : Int))) ∧ ∀ i, w.frozen? ⟨g, i, none⟩ = false := by
  subst hl
  obtain ⟨h, _⟩ := h
  have hc := h
  obtain ⟨_, h1 | ⟨g, cap, cur, rfl, hb, hh, hn, hm, _⟩⟩ := h
  · omega
  · refine ⟨g, cap, rfl, hn, by unfold maxLen at hm; omega, hb, ?_, fun i hi => ?_, fun i => hc.frozenAt i⟩
    · exact (hc.lt g rfl).2
    · rw [hc.cellAt i (by omega)]; simp [wd, hi]
theorem Words.pop {B : Nat} {w : World} {g cap : Nat} {l : List Nat} {x : Nat} (h : Words B w (.slice (some ⟨g, 0, none⟩) (l.length + 1) cap) (l ++ [x])) : Words B w (.slice (some ⟨g, 0, none⟩) l.length cap) l := by
  refine ⟨ownsRow_pop (last := [.int .u64 (x : Int)]) (by simp [wd]) ?_, fun y hy => h.2 y (by simp [hy])⟩
  have := h.1
  simpa [wd] using this
theorem Words.ext {B : Nat} {w w' : World} {v : Value} {l : List Nat} (h : Words B w v l) (k : Below w.heap.size w w') : Words B w' v l := by
  refine ⟨?_, h.2⟩
  obtain ⟨h1, h2 | ⟨g, cap, cur, hv, hg, hh, r⟩⟩ := h.1
  · exact ⟨h1, Or.inl h2⟩
  · have hlt := (h.1.lt g (by rw [hv]; rfl)).2
    exact ⟨h1, Or.inr ⟨g, cap, cur, hv, hg, by rw [k.block g hlt]; exact hh, r⟩⟩
theorem Words.base {B B' : Nat} {w : World} {v : Value} {l : List Nat} (h : Words B w v l) (k : B' ≤ B) : Words B' w v l := by
  refine ⟨?_, h.2⟩
  obtain ⟨h1, h2 | ⟨g, cap, cur, hv, hg, r⟩⟩ := h.1
  · exact ⟨h1, Or.inl h2⟩
  · exact ⟨h1, Or.inr ⟨g, cap, cur, hv, by omega, r⟩⟩
/-- One world after the other: what was there is as it was. -/
def Ext (w w' : World) : Prop := Below w.heap.size w w'
theorem Ext.refl (w : World) : Ext w w := Below.refl _ _
theorem Ext.trans {a b c : World} (h : Ext a b) (k : Ext b c) : Ext a c := Below.trans h (Below.mono k h.size)
theorem ext_drewN (w : World) (n : Nat) : Ext w (w.drewN n) := ⟨rfl, rfl, rfl, Nat.le_refl _, fun _ _ => rfl⟩
theorem ext_drew (w : World) : Ext w w.drew := ⟨rfl, rfl, rfl, Nat.le_refl _, fun _ _ => rfl⟩
theorem ext_alloc (w : World) (o : Obj) : Ext w (w.alloc o) := (Below.refl _ _).alloc (Nat.le_refl _) o
def SomeWords (B : Nat) (l : List Nat) (w : World) (e : Ending) (w' : World) : Prop := ∃ v, e = .returned v ∧ Words B w' v l ∧ w = w'
theorem trim_any (B : Nat) (v : Value) (l : List Nat) (w : World) (h : Words B w v l) : Calls Tryd.prog 81 #[v] w (SomeWords B (limbs (val l)) w) := by
  go_enter Tryd.func81, Tryd.ntmps81
  go_wp2_with fail
  go_loop [0] (fun v => ∃ m, Words B w v m ∧ val m = val l) (fun v => lenOf v)
  case atStart => exact ⟨l, h, rfl⟩
  case round =>
    obtain ⟨m, hm, e⟩ := hrel
    rcases nil_or_snoc m with rfl | ⟨r, x, rfl⟩
    · obtain ⟨a, cap, rfl, _⟩ := hm.nil
      go_wp2
      go_ret
      exact ⟨_, rfl, by rw [← e]; simpa [val, limbs_zero] using hm, rfl⟩
    · obtain ⟨g, cap, rfl, h1, h2, h3, h4, hc, hf⟩ := hm.pos (r.length + 1) (by simp) (by omega)
      have hx := hc r.length (by simp)
      rw [show (r ++ [x])[r.length]'(by simp) = x by simp] at hx
      have hpop := hm.pop
      clear hc hf
      by_cases hz : x = 0
      · subst hz
        have e2 : val r = val l := by rw [← e, val_snoc]; simp
        have HE := (show Hid _ from e2)
        clear e e2
        go_wp2
        exact ⟨⟨r, hpop, HE.out⟩, by simp [lenOf]⟩
      · have hz' : ((x : Int) == 0) = false := by simp; omega
        have e2 : limbs (val (r ++ [x])) = r ++ [x] := limbs_of _ hm.2 (by simp [hz])
        have HE : Hid (limbs (val l) = r ++ [x]) := by rw [← e]; exact e2
        clear e e2
        go_wp2
        go_ret
        exact ⟨_, rfl, by rw [HE.out]; exact hm, rfl⟩

theorem cmp_lt (l m : List Nat) (k : Nat) (h1 : k < l.length) (h2 : k < m.length) (hl : W64 l) (he : l.drop (k + 1) = m.drop (k + 1)) (hx : l[k] < m[k]) : val l < val m := by
  rw [val_take_drop l k (by omega), val_take_drop m k (by omega), val_drop l k h1, val_drop m k h2, he]
  have h3 := val_lt (l.take k) (w64_take hl k)
  rw [List.length_take, Nat.min_eq_left (by omega)] at h3
  have h4 : 18446744073709551616 ^ k * (l[k] + 18446744073709551616 * val (m.drop (k + 1)) + 1) ≤ 18446744073709551616 ^ k * (m[k] + 18446744073709551616 * val (m.drop (k + 1))) := Nat.mul_le_mul_left _ (by omega)
  rw [Nat.mul_add _ _ 1] at h4
  omega
theorem len_lt {n m : Nat} (h : (limbs n).length < (limbs m).length) : n < m := by
  have h1 := (limbs_len_le (n := n) (k := (limbs n).length)).1 (Nat.le_refl _)
  have h2 : ¬ m < 18446744073709551616 ^ (limbs n).length := fun e => by have := limbs_len_le.2 e; omega
  omega
def sgnN (n m : Nat) : Int := if n < m then -1 else if m < n then 1 else 0
def SomeInt (k : Int) (w : World) (e : Ending) (w' : World) : Prop := e = .returned (.int .i64 k) ∧ Ext w w'
theorem Words.shape {B : Nat} {w : World} {v : Value} {l : List Nat} (h : Words B w v l) (n : Nat) (hl : l.length = n) : ∃ a cap, v = .slice a n cap ∧ n ≤ cap ∧ cap ≤ 9223372036854775807 ∧
    ∀ i (hi : i < l.length), ∃ g, a = some ⟨g, 0, none⟩ ∧ B ≤ g ∧ g < w.heap.size ∧ w.cell? ⟨g, i, none⟩ = some (.int .u64 (l[i] : Int)) := by
  subst hl
  by_cases h0 : 0 < l.length
  · obtain ⟨g, cap, rfl, h1, h2, h3, h4, hc, hf⟩ := h.pos _ rfl h0
    exact ⟨_, _, rfl, h1, h2, fun i hi => ⟨g, rfl, h3, h4, hc i hi⟩⟩
  · have : l = [] := List.eq_nil_of_length_eq_zero (by omega)
    subst this
    obtain ⟨a, cap, rfl, h1⟩ := h.nil
    exact ⟨_, _, rfl, by simp, h1, fun i hi => by simp at hi⟩
theorem compare_any (B C : Nat) (u v : Value) (n m : Nat) (w : World) (h : Words B w u (limbs n)) (k : Words C w v (limbs m)) :
    Calls Tryd.prog 60 #[u, v] w (SomeInt (sgnN n m) w) := by
  obtain ⟨la, hla⟩ : ∃ la, (limbs n).length = la := ⟨_, rfl⟩
  obtain ⟨lb, hlb⟩ : ∃ lb, (limbs m).length = lb := ⟨_, rfl⟩
  obtain ⟨a, ca, rfl, a1, a2, fa⟩ := h.shape la hla
  obtain ⟨b, cb, rfl, b1, b2, fb⟩ := k.shape lb hlb
  have hd : la < lb ∨ lb < la ∨ la = lb := by omega
  rcases hd with hd | hd | rfl
  · have H : sgnN n m = -1 := if_pos (len_lt (by omega))
    have H2 : Hid (sgnN n m = -1) := H
    clear H hla hlb fa fb h k
    go_enter Tryd.func60, Tryd.ntmps60
    go_wp2
    go_ret
    exact ⟨rb1 H2.out.symm, Ext.refl _⟩
  · have hlt : m < n := len_lt (by omega)
    have H2 : Hid (sgnN n m = 1) := by unfold Hid sgnN; rw [if_neg (by omega), if_pos hlt]
    clear hlt hla hlb fa fb h k
    go_enter Tryd.func60, Tryd.ntmps60
    go_wp2
    go_ret
    exact ⟨rb1 H2.out.symm, Ext.refl _⟩
  · have H1 : Hid ((limbs n).length = la) := hla
    have H2 : Hid ((limbs m).length = la) := hlb
    have FA : Hid (∀ i (hi : i < (limbs n).length), ∃ g, a = some ⟨g, 0, none⟩ ∧ B ≤ g ∧ g < w.heap.size ∧ w.cell? ⟨g, i, none⟩ = some (.int .u64 ((limbs n)[i] : Int))) := fa
    have FB : Hid (∀ i (hi : i < (limbs m).length), ∃ g, b = some ⟨g, 0, none⟩ ∧ C ≤ g ∧ g < w.heap.size ∧ w.cell? ⟨g, i, none⟩ = some (.int .u64 ((limbs m)[i] : Int))) := fb
    clear hla hlb fa fb h k
    go_enter Tryd.func60, Tryd.ntmps60
    go_wp2_with fail
    go_loopw [5] (fun i wr => ∃ k : Nat, i = .int .i64 ((k : Int) - 1) ∧ k ≤ la ∧ Hid ((limbs n).drop k = (limbs m).drop k) ∧ Ext w wr) (fun i _ => (intOf i + 1).toNat)
    case atStart => exact ⟨la, rfl, Nat.le_refl _, by unfold Hid; rw [List.drop_of_length_le (by rw [H1.out]; omega), List.drop_of_length_le (by rw [H2.out]; omega)], Ext.refl _⟩
    case round =>
      obtain ⟨k, rfl, hk, HD, hE⟩ := hrel
      by_cases hk0 : k = 0
      · subst hk0
        go_wp2
        go_ret
        exact ⟨rb1 (by have e := HD.out; simp only [List.drop_zero] at e; have e2 := congrArg val e; rw [val_limbs, val_limbs] at e2; subst e2; simp [sgnN]), hE⟩
      · obtain ⟨j, rfl⟩ : ∃ j, k = j + 1 := ⟨k - 1, by omega⟩
        obtain ⟨g, rfl, _, hg, cg⟩ := FA.out j (by rw [H1.out]; omega)
        obtain ⟨g', rfl, _, hg', cg'⟩ := FB.out j (by rw [H2.out]; omega)
        have cg1 : wr.cell? ⟨g, j, none⟩ = _ := (hE.cell (p := ⟨g, j, none⟩) hg).trans cg
        have cg1' : wr.cell? ⟨g', j, none⟩ = _ := (hE.cell (p := ⟨g', j, none⟩) hg').trans cg'
        obtain ⟨x, hx⟩ : ∃ x, (limbs n)[j]'(by rw [H1.out]; omega) = x := ⟨_, rfl⟩
        obtain ⟨y, hy⟩ : ∃ y, (limbs m)[j]'(by rw [H2.out]; omega) = y := ⟨_, rfl⟩
        rw [hx] at cg1
        rw [hy] at cg1'
        have HX := show Hid ((limbs n)[j]'(by rw [H1.out]; omega) = x) from hx
        have HY := show Hid ((limbs m)[j]'(by rw [H2.out]; omega) = y) from hy
        clear hx hy cg cg' FA FB
        have hs1 : j < (limbs n).length := by rw [H1.out]; omega
        have hs2 : j < (limbs m).length := by rw [H2.out]; omega
        have hE2 : ∀ q, Ext w (wr.drewN q) := fun q => hE.trans (ext_drewN _ _)
        rcases (by omega : x < y ∨ y < x ∨ x = y) with hxy | hxy | hxy
        · have HL : Hid (sgnN n m = -1) := by
            have := cmp_lt (limbs n) (limbs m) j hs1 hs2 (limbs_w n) HD.out (by rw [HX.out, HY.out]; exact hxy)
            rw [val_limbs, val_limbs] at this
            exact if_pos this
          clear HX HY
          go_wp2
          go_quiet (fail)
          go_wp2
          go_ret
          exact ⟨rb1 HL.out.symm, hE2 _⟩
        · have HL : Hid (sgnN n m = 1) := by
            have := cmp_lt (limbs m) (limbs n) j hs2 hs1 (limbs_w m) HD.out.symm (by rw [HX.out, HY.out]; exact hxy)
            rw [val_limbs, val_limbs] at this
            unfold Hid sgnN; rw [if_neg (by omega), if_pos this]
          clear HX HY
          go_wp2
          go_quiet (fail)
          go_wp2
          go_quiet (fail)
          go_wp2
          go_ret
          exact ⟨rb1 HL.out.symm, (hE2 _).trans (ext_drewN _ _)⟩
        · subst hxy
          have HD2 : Hid ((limbs n).drop j = (limbs m).drop j) := by
            unfold Hid; rw [List.drop_eq_getElem_cons hs1, List.drop_eq_getElem_cons hs2, HD.out, HX.out, HY.out]
          clear HX HY
          go_wp2
          go_quiet (fail)
          go_wp2
          go_quiet (fail)
          go_wp2
          go_roundw
          case rel => exact ⟨j, by go_num, by omega, HD2, by first | exact hE2 _ | exact (hE2 _).trans (ext_drewN _ _)⟩
          case measure => first | (simp [intOf]; done) | (simp [intOf]; omega)

/-- The value of the words of a Wide. -/
def mag4 (a b c d : Nat) : Nat := val [a, b, c, d]
def NewWords (B : Nat) (n : Nat) (w : World) (e : Ending) (w' : World) : Prop := ∃ v, e = .returned v ∧ Words B w' v (limbs n) ∧ Ext w w'
theorem words_fresh (B : Nat) (w : World) (cur : Array Value) (g n cap : Nat) (l : List Nat) (hn : l.length = n) (hl : W64 l) (hB : B ≤ w.heap.size) (hg : g = w.heap.size) (hc : n ≤ cap) (hm : cap ≤ maxLen) (hs : cur.size = cap) (ht : cur.toList.take l.length = wd l) :
    Words B (w.alloc (.cells cur 22)) (.slice (some ⟨g, 0, none⟩) n cap) l := by
  subst hg
  subst hn
  exact ⟨⟨by simp [wd], Or.inr ⟨w.heap.size, cap, cur, rfl, hB, heap_alloc_new w _, hc, hm, by omega, by simpa using ht⟩⟩, hl⟩
theorem Words.drew {B : Nat} {w : World} {v : Value} {l : List Nat} (h : Words B w v l) : Words B w.drew v l := h
theorem of_any (B : Nat) (s : Bool) (a b c d : Nat) (w : World) (hB : B ≤ w.heap.size) (ha : a < 18446744073709551616) (hb : b < 18446744073709551616) (hc : c < 18446744073709551616) (hd : d < 18446744073709551616) :
    Calls Tryd.prog 55 #[.agg #[.bool s, .int .u64 a, .int .u64 b, .int .u64 c, .int .u64 d]] w (NewWords B (mag4 a b c d) w) := by
  have hcap : ¬281474976710656 < Builtin.nextslicecap 4 0 * Tryd.t22.bytes := by decide
  have hw : W64 [a, b, c, d] := by intro x hx; simp at hx; omega
  have g1 := grownCap_ge w 4 0 22
  have g2 := grownCap_le_maxLen w 4 0 22 (by unfold maxLen; omega)
  have e1 : ((w.alloc (.cells #[.bool s, .int .u64 a, .int .u64 b, .int .u64 c, .int .u64 d] 25)).alloc (.cells #[] 22)).heap.size = w.heap.size + 1 + 1 := by simp
  have hf := words_fresh B ((w.alloc (.cells #[.bool s, .int .u64 a, .int .u64 b, .int .u64 c, .int .u64 d] 25)).alloc (.cells #[] 22))
    (#[.int .u64 a, .int .u64 b, .int .u64 c, .int .u64 d] ++ Builtin.zeroCells #[.int .u64 0] (grownCap w 4 0 22 - 4)) (w.heap.size + 1 + 1) 4 (grownCap w 4 0 22) [a, b, c, d] rfl hw (by omega) e1.symm (by simpa using g1) g2 (by simp [size_zeroCells]; omega) (by simp [wd])
  unfold grownCap at hf
  have HF := hide hf
  clear hf e1 g1 g2
  go_enter Tryd.func55, Tryd.ntmps55
  go_wp2_with (go_at_call 81; refine (trim_any B _ [a, b, c, d] _ (Words.drew HF.out)).mono ?_; rintro e w' ⟨v, rfl, hv, rfl⟩)
  go_ret
  exact ⟨_, rfl, hv, (((ext_alloc _ _).trans (ext_alloc _ _)).trans (ext_alloc _ _)).trans (ext_drew _)⟩
theorem add64_run (x y c : Nat) (hc : c ≤ 1) (w : World) : (callFunc 85 #[.int .u64 x, .int .u64 y, .int .u64 c]).run Tryd.prog w =
      .ok (.value (.tuple #[.int .u64 (((x + y + c) % 18446744073709551616 : Nat) : Int), .int .u64 (((x + y + c) / 18446744073709551616 : Nat) : Int)])) w := by
  rw [run_callFunc_extern Tryd.func85 (by kernel_rfl) (by kernel_rfl) (by kernel_rfl) (e := add64Entry) (by kernel_rfl), run_add64 x y c (by omega) (by omega) (by omega) (by omega)]
  simp only [Result.andThen]
  congr 5 <;> omega
theorem sub64_run (x y b : Nat) (hb : b ≤ 1) (w : World) : (callFunc 65 #[.int .u64 x, .int .u64 y, .int .u64 b]).run Tryd.prog w =
      .ok (.value (.tuple #[.int .u64 (((x + 18446744073709551616 - y - b) % 18446744073709551616 : Nat) : Int), .int .u64 ((if x < y + b then 1 else 0 : Nat) : Int)])) w := by
  rw [run_callFunc_extern Tryd.func65 (by kernel_rfl) (by kernel_rfl) (by kernel_rfl) (e := sub64Entry) (by kernel_rfl), run_sub64 x y b hb]
  rfl
end Go.Proofs.YtkhlhlldlikleaaDoor
