/- Words in memory: trim, compare and of, of the reference of layer 2. Conditions: the slices are words that lie in memory. -/
import Derived.Test.YtdboaogdanahkaaProg
import Derived.Test.YtdboaogdanahkaaNat
import Derived.Test.YtdboaogdanahkaaPlain
import Derived.WalkSmall
import Derived.Shelf.Spec.BitsCarry
import Derived.Laws.AppendOwnNone
import Derived.Deep.QuietTactic
import Derived.BigQuiet
import Derived.Deep.RegionWith
import Derived.Deep.RegionHeld3
import Derived.Deep.DeepCutAuto
namespace Go.Proofs.Ytdboaogdanahkaa
set_option linter.unusedVariables false
set_option linter.unusedSimpArgs false
open Go Go.RowKit
theorem info_u64 : (Try.prog.info? 28).map (fun i => (i.zero, i.size, i.bytes)) = some (some (.int .u64 0), 1, 8) := by kernel_rfl

def wd (l : List Nat) : List Value := l.map fun x : Nat => Value.int .u64 (x : Int)
/-- The slice v owns the words l: it is nil, or begins at the head of a block from B on. -/
def Words (B : Nat) (w : World) (v : Value) (l : List Nat) : Prop := w.ownsRow B 28 1 v l.length (wd l) ∧ W64 l
def lenOf : Value → Nat | .slice _ n _ => n | _ => 0

theorem rb1 {k : IntKind} {a a' : Int} (h1 : a = a') : Ending.returned (Value.int k a) = .returned (.int k a') := by rw [h1]
theorem hide {p : Prop} (h : p) : Hid p := h
theorem nil_or_snoc {α : Type} (l : List α) : l = [] ∨ ∃ r x, l = r ++ [x] := by
  rcases List.eq_nil_or_concat l with h | ⟨r, x, h⟩
  · exact Or.inl h
  · exact Or.inr ⟨r, x, by rw [h, List.concat_eq_append]⟩
theorem Words.nil {B : Nat} {w : World} {v : Value} (h : Words B w v []) : ∃ a cap, v = .slice a 0 cap ∧ cap ≤ 9223372036854775807 := by
  obtain ⟨⟨_, h1 | ⟨g, cap, cur, e, h1⟩⟩, _⟩ := h
  · exact ⟨_, _, h1.1, by omega⟩
  · refine ⟨_, _, e, ?_⟩; have := h1.2.2.2.1; unfold maxLen at this; omega
theorem Words.pos {B : Nat} {w : World} {v : Value} {l : List Nat} (h : Words B w v l) (n : Nat) (hl : l.length = n) (h0 : 0 < n) : ∃ g cap, v = .slice (some ⟨g, 0, none⟩) n cap ∧ n ≤ cap ∧ cap ≤ 9223372036854775807 ∧ B ≤ g ∧ g < w.heap.size ∧
    (∀ i (hi : i < l.length), w.cell? ⟨g, i, none⟩ = some (.int .u64 (l[i] : Int))) ∧ ∀ i, w.frozen? ⟨g, i, none⟩ = false := by
  subst hl
  obtain ⟨h, _⟩ := h
  have hc := h
  obtain ⟨_, h1 | ⟨g, cap, cur, rfl, hb, hh, hn, hm, _⟩⟩ := h
  · omega
  · refine ⟨g, cap, rfl, hn, by unfold maxLen at hm; omega, hb, ?_, fun i hi => ?_, fun i => hc.frozenAt i⟩
    · exact (hc.lt g rfl).2
    · rw [hc.cellAt i (by omega)]; simp [wd, hi]
theorem Words.pop {B : Nat} {w : World} {g cap : Nat} {l : List Nat} {x : Nat} (h : Words B w (.slice (some ⟨g, 0, none⟩) (l.length + 1) cap) (l ++ [x])) : Words B w (.slice (some ⟨g, 0, none⟩) l.length cap) l := by
  refine ⟨ownsRow_pop (last := [.int .u64 (x : Int)]) (by simp [wd]) ?_, fun y hy => h.2 y (by simp [hy])⟩
  have := h.1
  simpa [wd] using this
theorem Words.ext {B : Nat} {w w' : World} {v : Value} {l : List Nat} (h : Words B w v l) (k : Below w.heap.size w w') : Words B w' v l := by
  refine ⟨?_, h.2⟩
  obtain ⟨h1, h2 | ⟨g, cap, cur, hv, hg, hh, r⟩⟩ := h.1
  · exact ⟨h1, Or.inl h2⟩
  · have hlt := (h.1.lt g (by rw [hv]; rfl)).2
    exact ⟨h1, Or.inr ⟨g, cap, cur, hv, hg, by rw [k.block g hlt]; exact hh, r⟩⟩
theorem Words.base {B B' : Nat} {w : World} {v : Value} {l : List Nat} (h : Words B w v l) (k : B' ≤ B) : Words B' w v l := by
  refine ⟨?_, h.2⟩
  obtain ⟨h1, h2 | ⟨g, cap, cur, hv, hg, r⟩⟩ := h.1
  · exact ⟨h1, Or.inl h2⟩
  · exact ⟨h1, Or.inr ⟨g, cap, cur, hv, by omega, r⟩⟩
/-- One world after the other: what was there is as it was. -/
def Ext (w w' : World) : Prop := Below w.heap.size w w'
theorem Ext.refl (w : World) : Ext w w := Below.refl _ _
theorem Ext.trans {a b c : World} (h : Ext a b) (k : Ext b c) : Ext a c := Below.trans h (Below.mono k h.size)
theorem ext_drewN (w : World) (n : Nat) : Ext w (w.drewN n) := ⟨rfl, rfl, rfl, Nat.le_refl _, fun _ _ => rfl⟩
theorem ext_drew (w : World) : Ext w w.drew := ⟨rfl, rfl, rfl, Nat.le_refl _, fun _ _ => rfl⟩
theorem ext_alloc (w : World) (o : Obj) : Ext w (w.alloc o) := (Below.refl _ _).alloc (Nat.le_refl _) o
def SomeWords (B : Nat) (l : List Nat) (w : World) (e : Ending) (w' : World) : Prop := ∃ v, e = .returned v ∧ Words B w' v l ∧ w = w'
theorem trim_any (B : Nat) (v : Value) (l : List Nat) (w : World) (h : Words B w v l) : Calls Try.prog 86 #[v] w (SomeWords B (limbs (val l)) w) := by
  go_enter Try.func86, Try.ntmps86
  go_wp2_with fail
  go_loop [0] (fun v => ∃ m, Words B w v m ∧ val m = val l) (fun v => lenOf v)
  case atStart => exact ⟨l, h, rfl⟩
  case round =>
    obtain ⟨m, hm, e⟩ := hrel
    rcases nil_or_snoc m with rfl | ⟨r, x, rfl⟩
    · obtain ⟨a, cap, rfl, _⟩ := hm.nil
      go_wp2
      go_ret
      exact ⟨_, rfl, by rw [← e]; simpa [val, limbs_zero] using hm, rfl⟩
    · obtain ⟨g, cap, rfl, h1, h2, h3, h4, hc, hf⟩ := hm.pos (r.length + 1) (by simp) (by omega)
      have hx := hc r.length (by simp)
      rw [show (r ++ [x])[r.length]'(by simp) = x by simp] at hx
      have hpop := hm.pop
      clear hc hf
      by_cases hz : x = 0
      · subst hz
        have e2 : val r = val l := by rw [← e, val_snoc]; simp
        have HE := (show Hid _ from e2)
        clear e e2
        go_wp2
        exact ⟨⟨r, hpop, HE.out⟩, by simp [lenOf]⟩
      · have hz' : ((x : Int) == 0) = false := by simp; omega
        have e2 : limbs (val (r ++ [x])) = r ++ [x] := limbs_of _ hm.2 (by simp [hz])
        have HE : Hid (limbs (val l) = r ++ [x]) := by rw [← e]; exact e2
        clear e e2
        go_wp2
        go_ret
        exact ⟨_, rfl, by rw [HE.out]; exact hm, rfl⟩

theorem cmp_lt (l m : List Nat) (k : Nat) (h1 : k < l.length) (h2 : k < m.length) (hl : W64 l) (he : l.drop (k + 1) = m.drop (k + 1)) (hx : l[k] < m[k]) : val l < val m := by
  rw [val_take_drop l k (by omega), val_take_drop m k (by omega), val_drop l k h1, val_drop m k h2, he]
  have h3 := val_lt (l.take k) (w64_take hl k)
  rw [List.length_take, Nat.min_eq_left (by omega)] at h3
  have h4 : 18446744073709551616 ^ k * (l[k] + 18446744073709551616 * val (m.drop (k + 1)) + 1) ≤ 18446744073709551616 ^ k * (m[k] + 18446744073709551616 * val (m.drop (k + 1))) := Nat.mul_le_mul_left _ (by omega)
  rw [Nat.mul_add _ _ 1] at h4
  omega
theorem len_lt {n m : Nat} (h : (limbs n).length < (limbs m).length) : n < m := by
  have h1 := (limbs_len_le (n := n) (k := (limbs n).length)).1 (Nat.le_refl _)
  have h2 : ¬ m < 18446744073709551616 ^ (limbs n).length := fun e => by have := limbs_len_le.2 e; omega
  omega
def sgnN (n m : Nat) : Int := if n < m then -1 else if m < n then 1 else 0
def SomeInt (k : Int) (w : World) (e : Ending) (w' : World) : Prop := e = .returned (.int .i64 k) ∧ Ext w w'
theorem Words.shape {B : Nat} {w : World} {v : Value} {l : List Nat} (h : Words B w v l) (n : Nat) (hl : l.length = n) : ∃ a cap, v = .slice a n cap ∧ n ≤ cap ∧ cap ≤ 9223372036854775807 ∧
    ∀ i (hi : i < l.length), ∃ g, a = some ⟨g, 0, none⟩ ∧ B ≤ g ∧ g < w.heap.size ∧ w.cell? ⟨g, i, none⟩ = some (.int .u64 (l[i] : Int)) := by
  subst hl
  by_cases h0 : 0 < l.length
  · obtain ⟨g, cap, rfl, h1, h2, h3, h4, hc, hf⟩ := h.pos _ rfl h0
    exact ⟨_, _, rfl, h1, h2, fun i hi => ⟨g, rfl, h3, h4, hc i hi⟩⟩
  · have : l = [] := List.eq_nil_of_length_eq_zero (by omega)
    subst this
    obtain ⟨a, cap, rfl, h1⟩ := h.nil
    exact ⟨_, _, rfl, by simp, h1, fun i hi => by simp at hi⟩
theorem compare_any (B C : Nat) (u v : Value) (n m : Nat) (w : World) (h : Words B w u (limbs n)) (k : Words C w v (limbs m)) :
    Calls Try.prog 89 #[u, v] w (SomeInt (sgnN n m) w) := by
  obtain ⟨la, hla⟩ : ∃ la, (limbs n).length = la := ⟨_, rfl⟩
  obtain ⟨lb, hlb⟩ : ∃ lb, (limbs m).length = lb := ⟨_, rfl⟩
  obtain ⟨a, ca, rfl, a1, a2, fa⟩ := h.shape la hla
  obtain ⟨b, cb, rfl, b1, b2, fb⟩ := k.shape lb hlb
  have hd : la < lb ∨ lb < la ∨ la = lb := by omega
  rcases hd with hd | hd | rfl
  · have H : sgnN n m = -1 := if_pos (len_lt (by omega))
    have H2 : Hid (sgnN n m = -1) := H
    clear H hla hlb fa fb h k
    go_enter Try.func89, Try.ntmps89
    go_wp2
    go_ret
    exact ⟨rb1 H2.out.symm, Ext.refl _⟩
  · have hlt : m < n := len_lt (by omega)
    have H2 : Hid (sgnN n m = 1) := by unfold Hid sgnN; rw [if_neg (by omega), if_pos hlt]
    clear hlt hla hlb fa fb h k
    go_enter Try.func89, Try.ntmps89
    go_wp2
    go_ret
    exact ⟨rb1 H2.out.symm, Ext.refl _⟩
  · have H1 : Hid ((limbs n).length = la) := hla
    have H2 : Hid ((limbs m).length = la) := hlb
    have FA : Hid (∀ i (hi : i < (limbs n).length), ∃ g, a = some ⟨g, 0, none⟩ ∧ B ≤ g ∧ g < w.heap.size ∧ w.cell? ⟨g, i, none⟩ = some (.int .u64 ((limbs n)[i] : Int))) := fa
    have FB : Hid (∀ i (hi : i < (limbs m).length), ∃ g, b = some ⟨g, 0, none⟩ ∧ C ≤ g ∧ g < w.heap.size ∧ w.cell? ⟨g, i, none⟩ = some (.int .u64 ((limbs m)[i] : Int))) := fb
    clear hla hlb fa fb h k
    go_enter Try.func89, Try.ntmps89
    go_wp2_with fail
    go_loopw [5] (fun i wr => ∃ k : Nat, i = .int .i64 ((k : Int) - 1) ∧ k ≤ la ∧ Hid ((limbs n).drop k = (limbs m).drop k) ∧ Ext w wr) (fun i _ => (intOf i + 1).toNat)
    case atStart => exact ⟨la, rfl, Nat.le_refl _, by unfold Hid; rw [List.drop_of_length_le (by rw [H1.out]; omega), List.drop_of_length_le (by rw [H2.out]; omega)], Ext.refl _⟩
    case round =>
      obtain ⟨k, rfl, hk, HD, hE⟩ := hrel
      by_cases hk0 : k = 0
      · subst hk0
        go_wp2
        go_ret
        exact ⟨rb1 (by have e := HD.out; simp only [List.drop_zero] at e; have e2 := congrArg val e; rw [val_limbs, val_limbs] at e2; subst e2; simp [sgnN]), hE⟩
      · obtain ⟨j, rfl⟩ : ∃ j, k = j + 1 := ⟨k - 1, by omega⟩
        obtain ⟨g, rfl, _, hg, cg⟩ := FA.out j (by rw [H1.out]; omega)
        obtain ⟨g', rfl, _, hg', cg'⟩ := FB.out j (by rw [H2.out]; omega)
        have cg1 : wr.cell? ⟨g, j, none⟩ = _ := (hE.cell (p := ⟨g, j, none⟩) hg).trans cg
        have cg1' : wr.cell? ⟨g', j, none⟩ = _ := (hE.cell (p := ⟨g', j, none⟩) hg').trans cg'
        obtain ⟨x, hx⟩ : ∃ x, (limbs n)[j]'(by rw [H1.out]; omega) = x := ⟨_, rfl⟩
        obtain ⟨y, hy⟩ : ∃ y, (limbs m)[j]'(by rw [H2.out]; omega) = y := ⟨_, rfl⟩
        rw [hx] at cg1
        rw [hy] at cg1'
        have HX := show Hid ((limbs n)[j]'(by rw [H1.out]; omega) = x) from hx
        have HY := show Hid ((limbs m)[j]'(by rw [H2.out]; omega) = y) from hy
        clear hx hy cg cg' FA FB
        have hs1 : j < (limbs n).length := by rw [H1.out]; omega
        have hs2 : j < (limbs m).length := by rw [H2.out]; omega
        have hE2 : ∀ q, Ext w (wr.drewN q) := fun q => hE.trans (ext_drewN _ _)
        rcases (by omega : x < y ∨ y < x ∨ x = y) with hxy | hxy | hxy
        · have HL : Hid (sgnN n m = -1) := by
            have := cmp_lt (limbs n) (limbs m) j hs1 hs2 (limbs_w n) HD.out (by rw [HX.out, HY.out]; exact hxy)
            rw [val_limbs, val_limbs] at this
            exact if_pos this
          clear HX HY
          go_wp2
          go_quiet (fail)
          go_wp2
          go_ret
          exact ⟨rb1 HL.out.symm, hE2 _⟩
        · have HL : Hid (sgnN n m = 1) := by
            have := cmp_lt (limbs m) (limbs n) j hs2 hs1 (limbs_w m) HD.out.symm (by rw [HX.out, HY.out]; exact hxy)
            rw [val_limbs, val_limbs] at this
            unfold Hid sgnN; rw [if_neg (by omega), if_pos this]
          clear HX HY
          go_wp2
          go_quiet (fail)
          go_wp2
          go_quiet (fail)
          go_wp2
          go_ret
          exact ⟨rb1 HL.out.symm, (hE2 _).trans (ext_drewN _ _)⟩
        · subst hxy
          have HD2 : Hid ((limbs n).drop j = (limbs m).drop j) := by
            unfold Hid; rw [List.drop_eq_getElem_cons hs1, List.drop_eq_getElem_cons hs2, HD.out, HX.out, HY.out]
          clear HX HY
          go_wp2
          go_quiet (fail)
          go_wp2
          go_quiet (fail)
          go_wp2
          go_roundw
          case rel => exact ⟨j, by go_num, by omega, HD2, by first | exact hE2 _ | exact (hE2 _).trans (ext_drewN _ _)⟩
          case measure => first | (simp [intOf]; done) | (simp [intOf]; omega)

/-- The value of the words of a Wide. -/
def mag4 (a b c d : Nat) : Nat := val [a, b, c, d]
def NewWords (B : Nat) (n : Nat) (w : World) (e : Ending) (w' : World) : Prop := ∃ v, e = .returned v ∧ Words B w' v (limbs n) ∧ Ext w w'
theorem words_fresh (B : Nat) (w : World) (cur : Array Value) (g n cap : Nat) (l : List Nat) (hn : l.length = n) (hl : W64 l) (hB : B ≤ w.heap.size) (hg : g = w.heap.size) (hc : n ≤ cap) (hm : cap ≤ maxLen) (hs : cur.size = cap) (ht : cur.toList.take l.length = wd l) :
    Words B (w.alloc (.cells cur 28)) (.slice (some ⟨g, 0, none⟩) n cap) l := by
  subst hg
  subst hn
  exact ⟨⟨by simp [wd], Or.inr ⟨w.heap.size, cap, cur, rfl, hB, heap_alloc_new w _, hc, hm, by omega, by simpa using ht⟩⟩, hl⟩
theorem Words.drew {B : Nat} {w : World} {v : Value} {l : List Nat} (h : Words B w v l) : Words B w.drew v l := h
theorem of_any (B : Nat) (s : Bool) (a b c d : Nat) (w : World) (hB : B ≤ w.heap.size) (ha : a < 18446744073709551616) (hb : b < 18446744073709551616) (hc : c < 18446744073709551616) (hd : d < 18446744073709551616) :
    Calls Try.prog 66 #[.agg #[.bool s, .int .u64 a, .int .u64 b, .int .u64 c, .int .u64 d]] w (NewWords B (mag4 a b c d) w) := by
  have hcap : ¬281474976710656 < Builtin.nextslicecap 4 0 * Try.t28.bytes := by decide
  have hw : W64 [a, b, c, d] := by intro x hx; simp at hx; omega
  have g1 := grownCap_ge w 4 0 28
  have g2 := grownCap_le_maxLen w 4 0 28 (by unfold maxLen; omega)
  have e1 : ((w.alloc (.cells #[.bool s, .int .u64 a, .int .u64 b, .int .u64 c, .int .u64 d] 32)).alloc (.cells #[] 28)).heap.size = w.heap.size + 1 + 1 := by simp
  have hf := words_fresh B ((w.alloc (.cells #[.bool s, .int .u64 a, .int .u64 b, .int .u64 c, .int .u64 d] 32)).alloc (.cells #[] 28))
    (#[.int .u64 a, .int .u64 b, .int .u64 c, .int .u64 d] ++ Builtin.zeroCells #[.int .u64 0] (grownCap w 4 0 28 - 4)) (w.heap.size + 1 + 1) 4 (grownCap w 4 0 28) [a, b, c, d] rfl hw (by omega) e1.symm (by simpa using g1) g2 (by simp [size_zeroCells]; omega) (by simp [wd])
  unfold grownCap at hf
  have HF := hide hf
  clear hf e1 g1 g2
  go_enter Try.func66, Try.ntmps66
  go_wp2_with (go_at_call 86; refine (trim_any B _ [a, b, c, d] _ (Words.drew HF.out)).mono ?_; rintro e w' ⟨v, rfl, hv, rfl⟩)
  go_ret
  exact ⟨_, rfl, hv, (((ext_alloc _ _).trans (ext_alloc _ _)).trans (ext_alloc _ _)).trans (ext_drew _)⟩
theorem add64_run (x y c : Nat) (hc : c ≤ 1) (w : World) : (callFunc 91 #[.int .u64 x, .int .u64 y, .int .u64 c]).run Try.prog w =
      .ok (.value (.tuple #[.int .u64 (((x + y + c) % 18446744073709551616 : Nat) : Int), .int .u64 (((x + y + c) / 18446744073709551616 : Nat) : Int)])) w := by
  rw [run_callFunc_extern Try.func91 (by kernel_rfl) (by kernel_rfl) (by kernel_rfl) (e := add64Entry) (by kernel_rfl), run_add64 x y c (by omega) (by omega) (by omega) (by omega)]
  simp only [Result.andThen]
  congr 5 <;> omega
theorem sub64_run (x y b : Nat) (hb : b ≤ 1) (w : World) : (callFunc 92 #[.int .u64 x, .int .u64 y, .int .u64 b]).run Try.prog w =
      .ok (.value (.tuple #[.int .u64 (((x + 18446744073709551616 - y - b) % 18446744073709551616 : Nat) : Int), .int .u64 ((if x < y + b then 1 else 0 : Nat) : Int)])) w := by
  rw [run_callFunc_extern Try.func92 (by kernel_rfl) (by kernel_rfl) (by kernel_rfl) (e := sub64Entry) (by kernel_rfl), run_sub64 x y b hb]
  rfl
end Go.Proofs.Ytdboaogdanahkaa
/- Words in memory: append, and add of the reference of layer 2. Conditions: the slices are words that lie in memory, at most 1000 of them. -/
namespace Go.Proofs.Ytdboaogdanahkaa
set_option linter.unusedVariables false
set_option linter.unusedSimpArgs false
open Go Go.RowKit
theorem wd_len (l : List Nat) : (wd l).length = l.length := by simp [wd]
theorem wd_append (a b : List Nat) : wd (a ++ b) = wd a ++ wd b := by simp [wd]
theorem w64_append {a b : List Nat} (h : W64 a) (k : W64 b) : W64 (a ++ b) := fun x hx => by rcases List.mem_append.1 hx with h1 | h1; exact h x h1; exact k x h1
theorem ext_grown {w w' : World} {row : Option Nat} (h : w.grownBy w' row) (hr : ∀ k, row = some k → w.heap.size ≤ k) : Ext w w' := (Below.refl _ _).grown h (Nat.le_refl _) hr
/-- append of words to words of one's own. -/
theorem append_words {w : World} {ops : Array Oper} {rest : List Oper} {o : Oper} {a : Act} {Q : Exit → Act → World → Prop} (hgd : o.guard = none) (s x : Operand)
    (ho : o.op = .call { callee := .builtin .append, args := #[s, x], argTypes := #[92, 92] })
    (B C : Nat) (v u : Value) (l m : List Nat) (hs : a.eval s = v) (hx : a.eval x = u) (h : Words B w v l) (k : Words C w u m) (hB : B ≤ w.heap.size) (hl : l.length + m.length ≤ 1000000) (W : World) (hW : Ext W w) (hWB : W.heap.size ≤ B)
    (hK : ∀ v' w', Words B w' v' (l ++ m) → Ext W w' → wpList Try.prog ops Q rest (a.put o.dst v') w') : wpList Try.prog ops Q (o :: rest) a w := by
  obtain ⟨i0, hi, hz0, hz1, hz2⟩ := info_parts info_u64
  have hlen : (l ++ m).length = l.length + m.length := by simp
  rcases k.1.2 with ⟨rfl, h0⟩ | ⟨g, cap, cur, rfl, hg, hh, r⟩
  · have hm : m = [] := List.eq_nil_of_length_eq_zero (by omega)
    subst hm
    exact wpList_append_own_none hgd s x 92 ho B 28 i0 1 Try.underlying92 hi v l.length (wd l) hs h.1 hx (hK _ _ (by simpa using h) hW)
  · have hc := k.1
    refine wpList_append_own w hgd s x 92 ho B 28 i0 (.int .u64 0) 1 8 Try.underlying92 hi hz0 hz1 hz2 rfl (by decide) v l.length (wd l) hs h.1 ⟨g, 0, none⟩ m.length cap (wd m) hx (by simp [wd]) ?_ ?_ (by unfold maxLen; omega) (by omega) hB ?_
    · intro j y hj
      have hj2 : j < m.length := by
        have := (List.getElem?_eq_some_iff.1 hj).1; simpa [wd] using this
      rw [← hj]
      rw [← hc.cellAt j (by omega)]
      by_cases hj0 : j = 0
      · subst hj0; simp [Addr.add]
      · simp [Addr.add, hj0]
    · intro y hy
      simp only [wd, List.mem_map] at hy
      obtain ⟨z, _, rfl⟩ := hy
      rfl
    · intro v' w' h1 h2 _
      exact hK v' w' ⟨by rw [hlen, wd_append]; exact h1, w64_append h.2 k.2⟩ (hW.grown h2 hW.size fun b hb => Nat.le_trans hWB (h.1.lt b hb).1)
theorem words_empty (B : Nat) (w : World) (g : Nat) (hg : g = w.heap.size) (hB : B ≤ w.heap.size) : Words B (w.alloc (.cells #[] 28)) (.slice (some ⟨g, 0, none⟩) 0 0) [] :=
  words_fresh B w #[] g 0 0 [] rfl (by intro x hx; simp at hx) hB hg (by simp) (by unfold maxLen; omega) (by simp) (by simp [wd])
theorem Words.at {B : Nat} {w : World} {a : Option Addr} {n cap : Nat} {l : List Nat} (h : Words B w (.slice a n cap) l) (i : Nat) (hi : i < l.length) :
    ∃ g, a = some ⟨g, 0, none⟩ ∧ B ≤ g ∧ g < w.heap.size ∧ w.cell? ⟨g, i, none⟩ = some (.int .u64 (l[i] : Int)) ∧ w.frozen? ⟨g, i, none⟩ = false := by
  obtain ⟨g, cap', e, _, _, h3, h4, hc, hf⟩ := h.pos _ rfl (by omega)
  injection e with e1 e2 e3
  exact ⟨g, e1, h3, h4, hc i hi, hf i⟩
theorem Words.set {B : Nat} {w : World} {g n cap : Nat} {l : List Nat} (h : Words B w (.slice (some ⟨g, 0, none⟩) n cap) l) (hn : l.length = n) (k x : Nat) (hx : x < 18446744073709551616) : Words B (w.setCell ⟨g, k, none⟩ (.int .u64 (x : Int))) (.slice (some ⟨g, 0, none⟩) n cap) (l.set k x) := by
  subst hn
  have h1 := (h.1.stored k (.int .u64 (x : Int))).1
  refine ⟨?_, ?_⟩
  · rw [List.length_set, show wd (l.set k x) = (wd l).set k (.int .u64 (x : Int)) by simp [wd, List.map_set]]; exact h1
  · intro y hy
    rcases List.mem_or_eq_of_mem_set hy with h2 | h2
    · exact h.2 y h2
    · omega
theorem ext_set {W w : World} (h : Ext W w) {g : Nat} (hg : W.heap.size ≤ g) (k : Nat) (u : Value) : Ext W (w.setCell ⟨g, k, none⟩ u) := Below.setCell (p := ⟨g, k, none⟩) h hg u
theorem val_set_take (l : List Nat) (k x : Nat) (h : k < l.length) : val ((l.set k x).take (k + 1)) = val (l.take k) + 18446744073709551616 ^ k * x := by
  rw [val_take_succ _ k (by simpa using h), List.getElem_set_self, List.take_set_of_le (Nat.le_refl _)]
theorem drop_set (l : List Nat) (k x : Nat) : (l.set k x).drop (k + 1) = l.drop (k + 1) := by rw [List.drop_set_of_lt (by omega)]
theorem val_take_getD (l : List Nat) (k : Nat) : val (l.take (k + 1)) = val (l.take k) + 18446744073709551616 ^ k * l.getD k 0 := by
  by_cases h : k < l.length
  · rw [val_take_succ l k h]; simp [List.getD, h]
  · rw [List.take_of_length_le (by omega), List.take_of_length_le (by omega)]; simp [List.getD, show l.length ≤ k by omega]
theorem drop_get {l m : List Nat} {k : Nat} (h : l.drop k = m.drop k) (h1 : k < l.length) (h2 : k < m.length) : l[k] = m[k] ∧ l.drop (k + 1) = m.drop (k + 1) := by
  rw [List.drop_eq_getElem_cons h1, List.drop_eq_getElem_cons h2] at h
  injection h with h3 h4
  exact ⟨h3, h4⟩
/-- What has been added so far. -/
def AddRel (p q os : List Nat) (k c : Nat) : Prop := os.length = p.length ∧ os.drop k = p.drop k ∧ c ≤ 1 ∧ val (os.take k) + 18446744073709551616 ^ k * c = val (p.take k) + val (q.take k)
theorem AddRel.step {p q os : List Nat} {k c : Nat} (h : AddRel p q os k c) (hk : k < p.length) (hp : W64 p) (hq : W64 q) :
    AddRel p q (os.set k ((p[k] + q.getD k 0 + c) % 18446744073709551616)) (k + 1) ((p[k] + q.getD k 0 + c) / 18446744073709551616) := by
  obtain ⟨h1, h2, h3, h4⟩ := h
  have hx := w64_get hp k hk
  have hy : q.getD k 0 < 18446744073709551616 := by
    by_cases hkq : k < q.length
    · have := w64_get hq k hkq; simp [List.getD, hkq]; exact this
    · simp [List.getD, show q.length ≤ k by omega]
  refine ⟨by simpa using h1, by rw [drop_set]; exact (drop_get h2 (by omega) hk).2, by omega, ?_⟩
  rw [val_set_take _ _ _ (by omega), val_take_succ p k hk, val_take_getD q k, Nat.pow_succ]
  generalize p[k] = x at *
  generalize q.getD k 0 = y at *
  have e := Nat.div_add_mod (x + y + c) 18446744073709551616
  generalize (x + y + c) / 18446744073709551616 = d at *
  generalize (x + y + c) % 18446744073709551616 = r at *
  grind
theorem AddRel.done {p q os : List Nat} {c : Nat} (h : AddRel p q os p.length c) (hq : q.length ≤ p.length) : val (os ++ [c]) = val p + val q := by
  obtain ⟨h1, _, _, h4⟩ := h
  rw [List.take_of_length_le (by omega), List.take_length, List.take_of_length_le hq] at h4
  rw [val_snoc, h1]; exact h4
theorem add64_run0 (x c : Nat) (hc : c ≤ 1) (w : World) : (callFunc 91 #[.int .u64 x, .int .u64 0, .int .u64 c]).run Try.prog w =
      .ok (.value (.tuple #[.int .u64 (((x + c) % 18446744073709551616 : Nat) : Int), .int .u64 (((x + c) / 18446744073709551616 : Nat) : Int)])) w := add64_run x 0 c hc w
theorem words_one (B : Nat) (w : World) (c g : Nat) (hg : g = w.heap.size) (hB : B ≤ w.heap.size) (hc : c < 18446744073709551616) : Words B (w.alloc (.cells #[.int .u64 (c : Int)] 28)) (.slice (some ⟨g, 0, none⟩) 1 1) [c] :=
  words_fresh B w #[.int .u64 (c : Int)] g 1 1 [c] rfl (by intro x hx; simp at hx; omega) hB hg (by simp) (by unfold maxLen; omega) (by simp) (by simp [wd])
theorem add_any (B C D : Nat) (u v : Value) (n m : Nat) (w : World) (h : Words C w u (limbs n)) (k : Words D w v (limbs m)) (hB : B ≤ w.heap.size) (hn : (limbs n).length ≤ 1000) (hm : (limbs m).length ≤ 1000) (hlt : ¬ (limbs n).length < (limbs m).length) :
    Calls Try.prog 67 #[u, v] w (NewWords B (n + m) w) := by
  obtain ⟨la, hla⟩ : ∃ la, (limbs n).length = la := ⟨_, rfl⟩
  obtain ⟨lb, hlb⟩ : ∃ lb, (limbs m).length = lb := ⟨_, rfl⟩
  obtain ⟨a, ca, rfl, a1, a2, _⟩ := h.shape la hla
  obtain ⟨b, cb, rfl, b1, b2, _⟩ := k.shape lb hlb
  rw [hla] at hn hlt
  rw [hlb] at hm hlt
  have HA := hide hla
  have HB := hide hlb
  have KA := hide h
  have KB := hide k
  have HE := hide (words_empty w.heap.size w w.heap.size rfl (Nat.le_refl _))
  clear hla hlb h k
  have hE0 := hide (ext_alloc w (.cells #[] 28))
  have hS := hide (Nat.le_succ w.heap.size)
  go_enter Try.func67, Try.ntmps67
  go_wp2_with (at_builtin; refine append_words rfl (.tmp 16) (.tmp 17) rfl w.heap.size C _ _ [] (limbs n) rfl rfl HE.out (KA.out.ext hE0.out) (by simp) (by rw [HA.out]; simp; omega) w hE0.out (Nat.le_refl _) ?_; intro v1 w1 hv1 hE1)
  have HV := hide hv1
  obtain ⟨ao, cap1, rfl, _, c2, _⟩ := hv1.shape la (by simpa using HA.out)
  clear hv1
  go_loopw [6, 7] (fun t i wr => ∃ (k c : Nat) (os : List Nat), i = .int .i64 k ∧ t = .int .u64 c ∧ k ≤ la ∧ c ≤ 1 ∧ Hid (AddRel (limbs n) (limbs m) os k c) ∧ Words w.heap.size wr (.slice ao la cap1) os ∧ Ext w wr) (fun _ i _ => la - (intOf i).toNat)
  case atStart => exact ⟨0, 0, limbs n, rfl, rfl, by omega, by omega, ⟨rfl, rfl, by omega, by simp [val]⟩, by simpa using HV.out, hE1⟩
  case round =>
    obtain ⟨k, c, os, rfl, rfl, hk, hc, HR, hW, hE⟩ := hrel
    have hol : os.length = la := by rw [HR.out.1]; exact HA.out
    have HO := hide hol
    clear hol
    by_cases hkl : k < la
    · obtain ⟨g, rfl, hg0, hg, cg, fg⟩ := hW.at k (by rw [HO.out]; exact hkl)
      obtain ⟨x, hx⟩ : ∃ x, os[k]'(by rw [HO.out]; exact hkl) = x := ⟨_, rfl⟩
      rw [hx] at cg
      have HX : Hid (x = (limbs n)[k]'(by rw [HA.out]; exact hkl)) := by rw [← hx]; exact (drop_get HR.out.2.1 (by rw [HO.out]; exact hkl) (by rw [HA.out]; exact hkl)).1
      clear hx
      by_cases hkb : k < lb
      · obtain ⟨gb, rfl, _, hgb, cb, _⟩ := KB.out.at k (by rw [HB.out]; exact hkb)
        have cb' : wr.cell? ⟨gb, k, none⟩ = _ := (hE.cell (p := ⟨gb, k, none⟩) hgb).trans cb
        obtain ⟨y, hy⟩ : ∃ y, (limbs m)[k]'(by rw [HB.out]; exact hkb) = y := ⟨_, rfl⟩
        rw [hy] at cb'
        clear cb
        have HY : Hid ((limbs m).getD k 0 = y) := by rw [← hy]; simp [Hid, List.getD, show k < (limbs m).length by rw [HB.out]; exact hkb]
        clear hy
        have hadd := add64_run x y c hc
        have HS : Hid (AddRel (limbs n) (limbs m) (os.set k ((x + y + c) % 18446744073709551616)) (k + 1) ((x + y + c) / 18446744073709551616)) := by
          have := HR.out.step (by rw [HA.out]; exact hkl) (limbs_w n) (limbs_w m)
          rw [← HX.out, HY.out] at this
          exact this
        have HW2 := hW.set HO.out k ((x + y + c) % 18446744073709551616) (by omega)
        rw [show (((x + y + c) % 18446744073709551616 : Nat) : Int) = ((x : Int) + y + c) % 18446744073709551616 by omega] at HW2
        have HW := hide HW2
        clear HW2
        go_wp2
        exact ⟨⟨k + 1, _, _, by go_num, by go_num, by omega, HS.out.2.2.1, HS, HW.out, ext_set hE hg0 _ _⟩, by simp [intOf]; omega⟩
      · have HY : Hid ((limbs m).getD k 0 = 0) := by simp [Hid, List.getD, show (limbs m).length ≤ k by rw [HB.out]; omega]
        have hadd := add64_run0 x c hc
        have HS : Hid (AddRel (limbs n) (limbs m) (os.set k ((x + 0 + c) % 18446744073709551616)) (k + 1) ((x + 0 + c) / 18446744073709551616)) := by
          have := HR.out.step (by rw [HA.out]; exact hkl) (limbs_w n) (limbs_w m)
          rw [← HX.out, HY.out] at this
          exact this
        have HW2 := hW.set HO.out k ((x + 0 + c) % 18446744073709551616) (by omega)
        rw [show (((x + 0 + c) % 18446744073709551616 : Nat) : Int) = ((x : Int) + c) % 18446744073709551616 by omega] at HW2
        have HW := hide HW2
        clear HW2
        go_wp2
        exact ⟨⟨k + 1, _, _, by go_num, by go_num, by omega, HS.out.2.2.1, HS, HW.out, ext_set hE hg0 _ _⟩, by simp [intOf]; omega⟩
    · obtain rfl : k = la := by omega
      have H1 : Hid (val (os ++ [c]) = n + m) := by
        have h1 := HR.out
        rw [show k = (limbs n).length from HA.out.symm] at h1
        have := h1.done (by rw [HA.out, HB.out]; omega)
        rwa [val_limbs, val_limbs] at this
      have H2 := hide (words_one wr.heap.size wr c wr.heap.size rfl (Nat.le_refl _) (by omega))
      have hE2 := hide (ext_alloc wr (.cells #[.int .u64 (c : Int)] 28))
      go_wp2_with (first
        | (at_builtin; refine append_words rfl (.tmp 46) (.tmp 48) rfl w.heap.size wr.heap.size _ _ os [c] rfl rfl (hW.ext hE2.out) H2.out (Nat.le_trans hE.size hE2.out.size) (by rw [HO.out]; simp; omega) w (hE.trans hE2.out) (Nat.le_refl _) ?_; intro v2 w2 hv2 hE3)
        | (go_at_call 86; refine (trim_any _ _ _ _ hv2).mono ?_; rintro e w' ⟨v3, rfl, hv3, rfl⟩))
      go_ret
      exact ⟨_, rfl, by rw [← H1.out]; exact hv3.base hB, hE3⟩
theorem add_sw (B C D : Nat) (u v : Value) (n m : Nat) (w : World) (h : Words C w u (limbs n)) (k : Words D w v (limbs m)) (hB : B ≤ w.heap.size) (hn : (limbs n).length ≤ 1000) (hm : (limbs m).length ≤ 1000) (hlt : (limbs m).length < (limbs n).length) :
    Calls Try.prog 67 #[v, u] w (NewWords B (n + m) w) := by
  obtain ⟨la, hla⟩ : ∃ la, (limbs n).length = la := ⟨_, rfl⟩
  obtain ⟨lb, hlb⟩ : ∃ lb, (limbs m).length = lb := ⟨_, rfl⟩
  obtain ⟨a, ca, rfl, a1, a2, _⟩ := h.shape la hla
  obtain ⟨b, cb, rfl, b1, b2, _⟩ := k.shape lb hlb
  rw [hla] at hn hlt
  rw [hlb] at hm hlt
  have HA := hide hla
  have HB := hide hlb
  have KA := hide h
  have KB := hide k
  have HE := hide (words_empty w.heap.size w w.heap.size rfl (Nat.le_refl _))
  clear hla hlb h k
  have hE0 := hide (ext_alloc w (.cells #[] 28))
  have hS := hide (Nat.le_succ w.heap.size)
  go_enter Try.func67, Try.ntmps67
  go_wp2_with (at_builtin; refine append_words rfl (.tmp 16) (.tmp 17) rfl w.heap.size C _ _ [] (limbs n) rfl rfl HE.out (KA.out.ext hE0.out) (by simp) (by rw [HA.out]; simp; omega) w hE0.out (Nat.le_refl _) ?_; intro v1 w1 hv1 hE1)
  have HV := hide hv1
  obtain ⟨ao, cap1, rfl, _, c2, _⟩ := hv1.shape la (by simpa using HA.out)
  clear hv1
  go_loopw [6, 7] (fun t i wr => ∃ (k c : Nat) (os : List Nat), i = .int .i64 k ∧ t = .int .u64 c ∧ k ≤ la ∧ c ≤ 1 ∧ Hid (AddRel (limbs n) (limbs m) os k c) ∧ Words w.heap.size wr (.slice ao la cap1) os ∧ Ext w wr) (fun _ i _ => la - (intOf i).toNat)
  case atStart => exact ⟨0, 0, limbs n, rfl, rfl, by omega, by omega, ⟨rfl, rfl, by omega, by simp [val]⟩, by simpa using HV.out, hE1⟩
  case round =>
    obtain ⟨k, c, os, rfl, rfl, hk, hc, HR, hW, hE⟩ := hrel
    have hol : os.length = la := by rw [HR.out.1]; exact HA.out
    have HO := hide hol
    clear hol
    by_cases hkl : k < la
    · obtain ⟨g, rfl, hg0, hg, cg, fg⟩ := hW.at k (by rw [HO.out]; exact hkl)
      obtain ⟨x, hx⟩ : ∃ x, os[k]'(by rw [HO.out]; exact hkl) = x := ⟨_, rfl⟩
      rw [hx] at cg
      have HX : Hid (x = (limbs n)[k]'(by rw [HA.out]; exact hkl)) := by rw [← hx]; exact (drop_get HR.out.2.1 (by rw [HO.out]; exact hkl) (by rw [HA.out]; exact hkl)).1
      clear hx
      by_cases hkb : k < lb
      · obtain ⟨gb, rfl, _, hgb, cb, _⟩ := KB.out.at k (by rw [HB.out]; exact hkb)
        have cb' : wr.cell? ⟨gb, k, none⟩ = _ := (hE.cell (p := ⟨gb, k, none⟩) hgb).trans cb
        obtain ⟨y, hy⟩ : ∃ y, (limbs m)[k]'(by rw [HB.out]; exact hkb) = y := ⟨_, rfl⟩
        rw [hy] at cb'
        clear cb
        have HY : Hid ((limbs m).getD k 0 = y) := by rw [← hy]; simp [Hid, List.getD, show k < (limbs m).length by rw [HB.out]; exact hkb]
        clear hy
        have hadd := add64_run x y c hc
        have HS : Hid (AddRel (limbs n) (limbs m) (os.set k ((x + y + c) % 18446744073709551616)) (k + 1) ((x + y + c) / 18446744073709551616)) := by
          have := HR.out.step (by rw [HA.out]; exact hkl) (limbs_w n) (limbs_w m)
          rw [← HX.out, HY.out] at this
          exact this
        have HW2 := hW.set HO.out k ((x + y + c) % 18446744073709551616) (by omega)
        rw [show (((x + y + c) % 18446744073709551616 : Nat) : Int) = ((x : Int) + y + c) % 18446744073709551616 by omega] at HW2
        have HW := hide HW2
        clear HW2
        go_wp2
        exact ⟨⟨k + 1, _, _, by go_num, by go_num, by omega, HS.out.2.2.1, HS, HW.out, ext_set hE hg0 _ _⟩, by simp [intOf]; omega⟩
      · have HY : Hid ((limbs m).getD k 0 = 0) := by simp [Hid, List.getD, show (limbs m).length ≤ k by rw [HB.out]; omega]
        have hadd := add64_run0 x c hc
        have HS : Hid (AddRel (limbs n) (limbs m) (os.set k ((x + 0 + c) % 18446744073709551616)) (k + 1) ((x + 0 + c) / 18446744073709551616)) := by
          have := HR.out.step (by rw [HA.out]; exact hkl) (limbs_w n) (limbs_w m)
          rw [← HX.out, HY.out] at this
          exact this
        have HW2 := hW.set HO.out k ((x + 0 + c) % 18446744073709551616) (by omega)
        rw [show (((x + 0 + c) % 18446744073709551616 : Nat) : Int) = ((x : Int) + c) % 18446744073709551616 by omega] at HW2
        have HW := hide HW2
        clear HW2
        go_wp2
        exact ⟨⟨k + 1, _, _, by go_num, by go_num, by omega, HS.out.2.2.1, HS, HW.out, ext_set hE hg0 _ _⟩, by simp [intOf]; omega⟩
    · obtain rfl : k = la := by omega
      have H1 : Hid (val (os ++ [c]) = n + m) := by
        have h1 := HR.out
        rw [show k = (limbs n).length from HA.out.symm] at h1
        have := h1.done (by rw [HA.out, HB.out]; omega)
        rwa [val_limbs, val_limbs] at this
      have H2 := hide (words_one wr.heap.size wr c wr.heap.size rfl (Nat.le_refl _) (by omega))
      have hE2 := hide (ext_alloc wr (.cells #[.int .u64 (c : Int)] 28))
      go_wp2_with (first
        | (at_builtin; refine append_words rfl (.tmp 46) (.tmp 48) rfl w.heap.size wr.heap.size _ _ os [c] rfl rfl (hW.ext hE2.out) H2.out (Nat.le_trans hE.size hE2.out.size) (by rw [HO.out]; simp; omega) w (hE.trans hE2.out) (Nat.le_refl _) ?_; intro v2 w2 hv2 hE3)
        | (go_at_call 86; refine (trim_any _ _ _ _ hv2).mono ?_; rintro e w' ⟨v3, rfl, hv3, rfl⟩))
      go_ret
      exact ⟨_, rfl, by rw [← H1.out]; exact hv3.base hB, hE3⟩
theorem ref_add (B C D : Nat) (u v : Value) (n m : Nat) (w : World) (h : Words C w u (limbs n)) (k : Words D w v (limbs m)) (hB : B ≤ w.heap.size) (hn : (limbs n).length ≤ 1000) (hm : (limbs m).length ≤ 1000) :
    Calls Try.prog 67 #[u, v] w (NewWords B (n + m) w) := by
  by_cases hl : (limbs n).length < (limbs m).length
  · rw [Nat.add_comm]; exact add_sw B D C v u m n w k h hB hm hn hl
  · exact add_any B C D u v n m w h k hB hn hm hl
end Go.Proofs.Ytdboaogdanahkaa
/- Words in memory: sub of the reference of layer 2. Conditions: the slices are words that lie in memory, at most 1000 of them, and the second number is not greater than the first. -/
namespace Go.Proofs.Ytdboaogdanahkaa
set_option linter.unusedVariables false
set_option linter.unusedSimpArgs false
open Go Go.RowKit
/-- What has been subtracted so far. -/
def SubRel (p q os : List Nat) (k c : Nat) : Prop := os.length = p.length ∧ os.drop k = p.drop k ∧ c ≤ 1 ∧ val (os.take k) + val (q.take k) = val (p.take k) + 18446744073709551616 ^ k * c
theorem SubRel.step {p q os : List Nat} {k c : Nat} (h : SubRel p q os k c) (hk : k < p.length) (hp : W64 p) (hq : W64 q) :
    SubRel p q (os.set k ((p[k] + 18446744073709551616 - q.getD k 0 - c) % 18446744073709551616)) (k + 1) (if p[k] < q.getD k 0 + c then 1 else 0) := by
  obtain ⟨h1, h2, h3, h4⟩ := h
  have hx := w64_get hp k hk
  have hy : q.getD k 0 < 18446744073709551616 := by
    by_cases hkq : k < q.length
    · have := w64_get hq k hkq; simp [List.getD, hkq]; exact this
    · simp [List.getD, show q.length ≤ k by omega]
  refine ⟨by simpa using h1, by rw [drop_set]; exact (drop_get h2 (by omega) hk).2, by split <;> omega, ?_⟩
  rw [val_set_take _ _ _ (by omega), val_take_succ p k hk, val_take_getD q k, Nat.pow_succ]
  generalize p[k] = x at *
  generalize q.getD k 0 = y at *
  obtain ⟨r, hr⟩ : ∃ r, (x + 18446744073709551616 - y - c) % 18446744073709551616 = r := ⟨_, rfl⟩
  rw [hr]
  split
  · have e : r + y + c = x + 18446744073709551616 := by omega
    grind
  · have e : r + y + c = x := by omega
    grind
theorem SubRel.done {p q os : List Nat} {c : Nat} (h : SubRel p q os p.length c) (hq : q.length ≤ p.length) (ho : W64 os) (hle : val q ≤ val p) : val os = val p - val q := by
  obtain ⟨h1, _, h3, h4⟩ := h
  rw [List.take_of_length_le (by omega), List.take_length, List.take_of_length_le hq] at h4
  have h5 := val_lt os ho
  rw [h1] at h5
  have : c = 0 ∨ c = 1 := by omega
  rcases this with rfl | rfl
  · simp at h4; omega
  · simp at h4; omega
theorem sub64_run0 (x c : Nat) (hc : c ≤ 1) (w : World) : (callFunc 92 #[.int .u64 x, .int .u64 0, .int .u64 c]).run Try.prog w =
      .ok (.value (.tuple #[.int .u64 (((x + 18446744073709551616 - 0 - c) % 18446744073709551616 : Nat) : Int), .int .u64 ((if x < 0 + c then 1 else 0 : Nat) : Int)])) w := sub64_run x 0 c hc w
theorem ref_sub (B C D : Nat) (u v : Value) (n m : Nat) (w : World) (h : Words C w u (limbs n)) (k : Words D w v (limbs m)) (hB : B ≤ w.heap.size) (hn : (limbs n).length ≤ 1000) (hm : (limbs m).length ≤ 1000) (hmn : m ≤ n) :
    Calls Try.prog 68 #[u, v] w (NewWords B (n - m) w) := by
  obtain ⟨la, hla⟩ : ∃ la, (limbs n).length = la := ⟨_, rfl⟩
  obtain ⟨lb, hlb⟩ : ∃ lb, (limbs m).length = lb := ⟨_, rfl⟩
  obtain ⟨a, ca, rfl, a1, a2, _⟩ := h.shape la hla
  obtain ⟨b, cb, rfl, b1, b2, _⟩ := k.shape lb hlb
  have hlt : ¬ la < lb := fun e => by have := len_lt (n := n) (m := m) (by omega); omega
  rw [hla] at hn
  rw [hlb] at hm
  have HA := hide hla
  have HB := hide hlb
  have KA := hide h
  have KB := hide k
  have HE := hide (words_empty w.heap.size w w.heap.size rfl (Nat.le_refl _))
  clear hla hlb h k
  have hE0 := hide (ext_alloc w (.cells #[] 28))
  have hS := hide (Nat.le_succ w.heap.size)
  go_enter Try.func68, Try.ntmps68
  go_wp2_with (at_builtin; refine append_words rfl (.tmp 9) (.tmp 10) rfl w.heap.size C _ _ [] (limbs n) rfl rfl HE.out (KA.out.ext hE0.out) (by simp) (by rw [HA.out]; simp; omega) w hE0.out (Nat.le_refl _) ?_; intro v1 w1 hv1 hE1)
  have HV := hide hv1
  obtain ⟨ao, cap1, rfl, _, c2, _⟩ := hv1.shape la (by simpa using HA.out)
  clear hv1
  go_loopw [6, 7] (fun t i wr => ∃ (k c : Nat) (os : List Nat), i = .int .i64 k ∧ t = .int .u64 c ∧ k ≤ la ∧ c ≤ 1 ∧ Hid (SubRel (limbs n) (limbs m) os k c) ∧ Words w.heap.size wr (.slice ao la cap1) os ∧ Ext w wr) (fun _ i _ => la - (intOf i).toNat)
  case atStart => exact ⟨0, 0, limbs n, rfl, rfl, by omega, by omega, ⟨rfl, rfl, by omega, by simp [val]⟩, by simpa using HV.out, hE1⟩
  case round =>
    obtain ⟨k, c, os, rfl, rfl, hk, hc, HR, hW, hE⟩ := hrel
    have hol : os.length = la := by rw [HR.out.1]; exact HA.out
    have HO := hide hol
    clear hol
    by_cases hkl : k < la
    · obtain ⟨g, rfl, hg0, hg, cg, fg⟩ := hW.at k (by rw [HO.out]; exact hkl)
      obtain ⟨x, hx⟩ : ∃ x, os[k]'(by rw [HO.out]; exact hkl) = x := ⟨_, rfl⟩
      rw [hx] at cg
      have HX : Hid (x = (limbs n)[k]'(by rw [HA.out]; exact hkl)) := by rw [← hx]; exact (drop_get HR.out.2.1 (by rw [HO.out]; exact hkl) (by rw [HA.out]; exact hkl)).1
      clear hx
      by_cases hkb : k < lb
      · obtain ⟨gb, rfl, _, hgb, cb, _⟩ := KB.out.at k (by rw [HB.out]; exact hkb)
        have cb' : wr.cell? ⟨gb, k, none⟩ = _ := (hE.cell (p := ⟨gb, k, none⟩) hgb).trans cb
        obtain ⟨y, hy⟩ : ∃ y, (limbs m)[k]'(by rw [HB.out]; exact hkb) = y := ⟨_, rfl⟩
        rw [hy] at cb'
        clear cb
        have HY : Hid ((limbs m).getD k 0 = y) := by rw [← hy]; simp [Hid, List.getD, show k < (limbs m).length by rw [HB.out]; exact hkb]
        clear hy
        have hadd := sub64_run x y c hc
        have HS : Hid (SubRel (limbs n) (limbs m) (os.set k ((x + 18446744073709551616 - y - c) % 18446744073709551616)) (k + 1) (if x < y + c then 1 else 0)) := by
          have := HR.out.step (by rw [HA.out]; exact hkl) (limbs_w n) (limbs_w m)
          rw [← HX.out, HY.out] at this
          exact this
        have HW2 := hW.set HO.out k ((x + 18446744073709551616 - y - c) % 18446744073709551616) (by omega)
        have HW := hide HW2
        clear HW2
        go_wp2
        exact ⟨⟨k + 1, _, _, by go_num, by (first | rfl | go_num | simp), by omega, HS.out.2.2.1, HS, HW.out, ext_set hE hg0 _ _⟩, by first | (simp [intOf]; done) | (simp [intOf]; omega)⟩
      · have HY : Hid ((limbs m).getD k 0 = 0) := by simp [Hid, List.getD, show (limbs m).length ≤ k by rw [HB.out]; omega]
        have hadd := sub64_run0 x c hc
        have HS : Hid (SubRel (limbs n) (limbs m) (os.set k ((x + 18446744073709551616 - 0 - c) % 18446744073709551616)) (k + 1) (if x < 0 + c then 1 else 0)) := by
          have := HR.out.step (by rw [HA.out]; exact hkl) (limbs_w n) (limbs_w m)
          rw [← HX.out, HY.out] at this
          exact this
        have HW2 := hW.set HO.out k ((x + 18446744073709551616 - 0 - c) % 18446744073709551616) (by omega)
        have HW := hide HW2
        clear HW2
        go_wp2
        exact ⟨⟨k + 1, _, _, by go_num, by (first | rfl | go_num | simp), by omega, HS.out.2.2.1, HS, HW.out, ext_set hE hg0 _ _⟩, by first | (simp [intOf]; done) | (simp [intOf]; omega)⟩
    · obtain rfl : k = la := by omega
      have H1 : Hid (val os = n - m) := by
        have h1 := HR.out
        rw [show k = (limbs n).length from HA.out.symm] at h1
        have := h1.done (by rw [HA.out, HB.out]; omega) hW.2 (by rw [val_limbs, val_limbs]; exact hmn)
        rwa [val_limbs, val_limbs] at this
      go_wp2_with (go_at_call 86; refine (trim_any _ _ _ _ hW).mono ?_; rintro e w' ⟨v3, rfl, hv3, rfl⟩)
      go_ret
      exact ⟨_, rfl, by rw [← H1.out]; exact hv3.base hB, hE⟩
end Go.Proofs.Ytdboaogdanahkaa
/- The Wide that the reference of layer 2 builds of a sign and words, and when it is one. Conditions: the slice is words that lie in memory. -/
namespace Go.Proofs.Ytdboaogdanahkaa
set_option linter.unusedVariables false
set_option linter.unusedSimpArgs false
open Go Go.RowKit
/-- A Wide as a value: its sign and the four words of its absolute value. -/
def wideV (s : Bool) (a b c d : Nat) : Value := .agg #[.bool s, .int .u64 (a : Int), .int .u64 (b : Int), .int .u64 (c : Int), .int .u64 (d : Int)]
def natV (s : Bool) (n : Nat) : Value := wideV s (n % 18446744073709551616) (n / 18446744073709551616 % 18446744073709551616) (n / 340282366920938463463374607431768211456 % 18446744073709551616) (n / 6277101735386680763835789423207666416102355444464034512896 % 18446744073709551616)
theorem cell_of_block {w : World} {b : Nat} {cur : Array Value} {e : TypeId} (h : w.heap[b]? = some (.cells cur e (0, 0))) (i : Nat) : w.cell? ⟨b, i, none⟩ = cur[i]? := by simp [World.cell?, h]
theorem free_of_block {w : World} {b : Nat} {cur : Array Value} {e : TypeId} (h : w.heap[b]? = some (.cells cur e (0, 0))) (i : Nat) : w.frozen? ⟨b, i, none⟩ = false := by simp [World.frozen?, h]

theorem Words.store_other {B : Nat} {w : World} {v : Value} {l : List Nat} (h : Words B w v l) {b : Nat} {cur : Array Value} (hb : w.heap[b]? = some (.cells cur 32 (0, 0))) (j : Nat) (u : Value) : Words B (w.setCell ⟨b, j, none⟩ u) v l := by
  refine ⟨?_, h.2⟩
  obtain ⟨h1, h2 | ⟨g, cap, c, hv, hg, hh, r⟩⟩ := h.1
  · exact ⟨h1, Or.inl h2⟩
  · have hne : g ≠ b := by rintro rfl; rw [hh] at hb; simp at hb
    exact ⟨h1, Or.inr ⟨g, cap, c, hv, hg, by rw [heap_setCell_other w ⟨b, j, none⟩ g u hne]; exact hh, r⟩⟩
theorem limbs_getD (n i : Nat) : (limbs n).getD i 0 = n / 18446744073709551616 ^ i % 18446744073709551616 := by
  induction i generalizing n with
  | zero =>
    by_cases h : n = 0
    · subst h; simp [limbs_zero]
    · rw [limbs_pos h]; simp
  | succ i ih =>
    by_cases h : n = 0
    · subst h; simp [limbs_zero]
    · rw [limbs_pos h, List.getD_cons_succ, ih, Nat.div_div_eq_div_mul, Nat.pow_succ, Nat.mul_comm]
def g4 (l : List Nat) (k i : Nat) : Int := if i < k then ((l.getD i 0 : Nat) : Int) else 0
def wcur (s : Bool) (l : List Nat) (k : Nat) : Array Value := #[.bool s, .int .u64 (g4 l k 0), .int .u64 (g4 l k 1), .int .u64 (g4 l k 2), .int .u64 (g4 l k 3)]
theorem wcur_all (s : Bool) (n : Nat) : (Value.agg (wcur s (limbs n) (limbs n).length)) = natV s n := by
  have hg : ∀ i, g4 (limbs n) (limbs n).length i = ((n / 18446744073709551616 ^ i % 18446744073709551616 : Nat) : Int) := by
    intro i
    unfold g4
    split
    · rw [limbs_getD]
    · rename_i h
      rw [← limbs_getD]; simp [List.getD, show (limbs n).length ≤ i by omega]
  unfold wcur natV wideV
  rw [hg 0, hg 1, hg 2, hg 3]
  simp
theorem wcur_set (s : Bool) (l : List Nat) (k : Nat) (hk : k < 4) (hl : k < l.length) : (wcur s l k).setIfInBounds (k + 1) (.int .u64 ((l[k] : Nat) : Int)) = wcur s l (k + 1) := by
  have hd : l.getD k 0 = l[k] := by simp [List.getD, hl]
  have : k = 0 ∨ k = 1 ∨ k = 2 ∨ k = 3 := by omega
  rcases this with rfl | rfl | rfl | rfl <;> simp [wcur, g4, ← hd, Array.setIfInBounds]
theorem wcur_zero (s : Bool) (l : List Nat) (k : Nat) (hk : k < 4) : (wcur s l k)[k + 1]? = some (.int .u64 0) := by
  have : k = 0 ∨ k = 1 ∨ k = 2 ∨ k = 3 := by omega
  rcases this with rfl | rfl | rfl | rfl <;> simp [wcur, g4]
theorem store_block {w : World} {b : Nat} {cur : Array Value} {e : TypeId} (h : w.heap[b]? = some (.cells cur e (0, 0))) (j : Nat) (u : Value) : (w.setCell ⟨b, j, none⟩ u).heap[b]? = some (.cells (cur.setIfInBounds j u) e (0, 0)) := heap_setCell_same w b j cur e u h
theorem two_blocks (w : World) (o p : Obj) : ((w.alloc o).alloc p).heap[w.heap.size]? = some o ∧ ((w.alloc o).alloc p).heap[w.heap.size + 1]? = some p := by
  have h1 := heap_alloc_new w o
  have h2 := heap_alloc_new (w.alloc o) p
  have h3 : (w.alloc o).heap.size = w.heap.size + 1 := by simp
  rw [h3] at h2
  exact ⟨(Below.heap_alloc (w.alloc o) p w.heap.size (by omega)).trans h1, h2⟩
/-- The Wide that is built, and its sign and its number. -/
def Wide4 (v : Value) (o : Bool) (w : World) (e : Ending) (w' : World) : Prop := e = .returned (.tuple #[v, .bool o]) ∧ Ext w w'
theorem wide_fits (C : Nat) (s : Bool) (v : Value) (l : List Nat) (n : Nat) (w : World) (h : Words C w v l) (hn : val l = n) (hf : (limbs n).length ≤ 4) :
    Calls Try.prog 69 #[.bool s, v] w (Wide4 (natV (s && decide (n ≠ 0)) n) true w) := by
  obtain ⟨m, hm⟩ : ∃ m, limbs n = m := ⟨_, rfl⟩
  obtain ⟨L, hL⟩ : ∃ L, m.length = L := ⟨_, rfl⟩
  rw [hm, hL] at hf
  have HN : Hid (limbs (val l) = m) := by rw [hn]; exact hm
  have HM := hide hm
  have HL := hide hL
  have hz : n = 0 ↔ L = 0 := by rw [← hL, ← hm, List.length_eq_zero_iff, limbs_nil]
  clear hm hn
  have hLs : L = 0 ∨ 0 < L := by omega
  cases s <;> rcases hLs with hL0 | hL0
  · subst hL0
    have hd : decide (n ≠ 0) = false := by simp; omega
    have HZ : Hid (natV (false && decide (n ≠ 0)) n = natV false n) := by rw [hd]; exact rfl
    clear hd hz hL
    have hb0 := hide (show ((w.alloc (.cells (wcur false [] 0) 32)).alloc (.cells (wcur false m 0) 32)).heap[w.heap.size]? = some (.cells (wcur false [] 0) 32 (0, 0)) from (two_blocks _ _ _).1)
    have hb1 := hide (show ((w.alloc (.cells (wcur false [] 0) 32)).alloc (.cells (wcur false m 0) 32)).heap[w.heap.size + 1]? = some (.cells (wcur false m 0) 32 (0, 0)) from (two_blocks _ _ _).2)
    have hx2 := hide ((ext_alloc w (.cells (wcur false [] 0) 32)).trans (ext_alloc _ (.cells (wcur false m 0) 32)))
    have HK : Hid (limbs n = m ∧ m.length = 0) := ⟨HM.out, HL.out⟩
    go_enter Try.func69, Try.ntmps69
    go_wp2_with (go_at_call 86; refine (trim_any _ _ _ _ (h.ext (ext_alloc w _))).mono ?_; rintro e w' ⟨v3, rfl, hv3, rfl⟩; rw [HN.out] at hv3; obtain ⟨a3, c3, rfl, h3a, h3b, _⟩ := hv3.shape 0 HL.out)
    go_loopw [7] (fun i wr => ∃ k : Nat, i = .int .i64 k ∧ k ≤ 0 ∧ Hid (wr.heap[w.heap.size]? = some (.cells (wcur false [] 0) 32 (0, 0))) ∧ Hid (wr.heap[w.heap.size + 1]? = some (.cells (wcur false m k) 32 (0, 0))) ∧ Words C wr (.slice a3 0 c3) m ∧ Ext w wr) (fun i _ => 0 - (intOf i).toNat)
    case atStart => exact ⟨0, rfl, by omega, hb0, hb1, hv3.ext (ext_alloc _ _), hx2.out⟩
    case round =>
      obtain ⟨k, rfl, hk, hc0, hc1, hW, hE⟩ := hrel
      · obtain rfl : k = 0 := by omega
        have d0 := cell_of_block hc0.out 0
        have d1 := cell_of_block hc0.out 1
        have d2 := cell_of_block hc0.out 2
        have d3 := cell_of_block hc0.out 3
        have d4 := cell_of_block hc0.out 4
        have f0 := free_of_block hc0.out 0
        have f1 := free_of_block hc0.out 1
        have f2 := free_of_block hc0.out 2
        have f3 := free_of_block hc0.out 3
        have f4 := free_of_block hc0.out 4
        have e0 := cell_of_block hc1.out 0
        have e1 := cell_of_block hc1.out 1
        have e2 := cell_of_block hc1.out 2
        have e3 := cell_of_block hc1.out 3
        have e4 := cell_of_block hc1.out 4
        simp only [wcur] at d0 d1 d2 d3 d4 e0 e1 e2 e3 e4
        go_wp2
        refine bodyPost_ret (v := .tuple #[.agg (wcur false m 0), .bool true]) (by simp [results, Try.results69, go_sem, d0, d1, d2, d3, d4, wcur]) rfl ⟨?_, ?_⟩
        · have e := HK.out
          rw [HZ.out, ← wcur_all, e.1, e.2]
        · exact ext_set (ext_set (ext_set (ext_set (ext_set hE (Nat.le_refl _) _ _) (Nat.le_refl _) _ _) (Nat.le_refl _) _ _) (Nat.le_refl _) _ _) (Nat.le_refl _) _ _
  · have hd : decide (n ≠ 0) = true := by simp; omega
    have HZ : Hid (natV (false && decide (n ≠ 0)) n = natV false n) := by rw [hd]; exact rfl
    clear hd hz hL
    have hb0 := hide (show ((w.alloc (.cells (wcur false [] 0) 32)).alloc (.cells (wcur false m 0) 32)).heap[w.heap.size]? = some (.cells (wcur false [] 0) 32 (0, 0)) from (two_blocks _ _ _).1)
    have hb1 := hide (show ((w.alloc (.cells (wcur false [] 0) 32)).alloc (.cells (wcur false m 0) 32)).heap[w.heap.size + 1]? = some (.cells (wcur false m 0) 32 (0, 0)) from (two_blocks _ _ _).2)
    have hx2 := hide ((ext_alloc w (.cells (wcur false [] 0) 32)).trans (ext_alloc _ (.cells (wcur false m 0) 32)))
    have HK : Hid (limbs n = m ∧ m.length = L) := ⟨HM.out, HL.out⟩
    go_enter Try.func69, Try.ntmps69
    go_wp2_with (go_at_call 86; refine (trim_any _ _ _ _ (h.ext (ext_alloc w _))).mono ?_; rintro e w' ⟨v3, rfl, hv3, rfl⟩; rw [HN.out] at hv3; obtain ⟨a3, c3, rfl, h3a, h3b, _⟩ := hv3.shape L HL.out)
    go_loopw [7] (fun i wr => ∃ k : Nat, i = .int .i64 k ∧ k ≤ L ∧ Hid (wr.heap[w.heap.size]? = some (.cells (wcur false [] 0) 32 (0, 0))) ∧ Hid (wr.heap[w.heap.size + 1]? = some (.cells (wcur false m k) 32 (0, 0))) ∧ Words C wr (.slice a3 L c3) m ∧ Ext w wr) (fun i _ => L - (intOf i).toNat)
    case atStart => exact ⟨0, rfl, by omega, hb0, hb1, hv3.ext (ext_alloc _ _), hx2.out⟩
    case round =>
      obtain ⟨k, rfl, hk, hc0, hc1, hW, hE⟩ := hrel
      by_cases hkl : k < L
      · obtain ⟨g, rfl, hg0, hg, cg, fg⟩ := hW.at k (by rw [HK.out.2]; exact hkl)
        have HS : Hid ((wcur false m k).setIfInBounds (k + 1) (.int .u64 ((m[k]'(by rw [HK.out.2]; exact hkl) : Nat) : Int)) = wcur false m (k + 1)) := wcur_set false m k (by omega) (by rw [HK.out.2]; exact hkl)
        obtain ⟨x, hx⟩ : ∃ x, m[k]'(by rw [HK.out.2]; exact hkl) = x := ⟨_, rfl⟩
        rw [hx] at cg HS
        clear hx
        have hfr := free_of_block hc1.out (k + 1)
        have hsz : 1 + k = k + 1 := by omega
        have hk4 : (k : Int) < 4 := by omega
        have hce : wr.cell? ⟨w.heap.size + 1, k + 1, none⟩ = some (.int .u64 0) := by rw [cell_of_block hc1.out, wcur_zero _ _ _ (by omega)]
        have H0 := hide (show (wr.setCell ⟨w.heap.size + 1, k + 1, none⟩ (.int .u64 (x : Int))).heap[w.heap.size]? = some (.cells (wcur false [] 0) 32 (0, 0)) from (heap_setCell_other wr ⟨w.heap.size + 1, k + 1, none⟩ w.heap.size _ (by simp)).trans hc0.out)
        have H1 : Hid ((wr.setCell ⟨w.heap.size + 1, k + 1, none⟩ (.int .u64 (x : Int))).heap[w.heap.size + 1]? = some (.cells (wcur false m (k + 1)) 32 (0, 0))) := by rw [← HS.out]; exact store_block hc1.out _ _
        have HW := hide (hW.store_other hc1.out (k + 1) (.int .u64 (x : Int)))
        have HE := hide (ext_set hE (g := w.heap.size + 1) (by omega) (k + 1) (.int .u64 (x : Int)))
        go_wp2
        exact ⟨⟨k + 1, by go_num, by omega, H0, H1, HW.out, HE.out⟩, by simp [intOf]; omega⟩
      · obtain rfl : k = L := by omega
        have d0 := cell_of_block hc0.out 0
        have d1 := cell_of_block hc0.out 1
        have d2 := cell_of_block hc0.out 2
        have d3 := cell_of_block hc0.out 3
        have d4 := cell_of_block hc0.out 4
        have f0 := free_of_block hc0.out 0
        have f1 := free_of_block hc0.out 1
        have f2 := free_of_block hc0.out 2
        have f3 := free_of_block hc0.out 3
        have f4 := free_of_block hc0.out 4
        have e0 := cell_of_block hc1.out 0
        have e1 := cell_of_block hc1.out 1
        have e2 := cell_of_block hc1.out 2
        have e3 := cell_of_block hc1.out 3
        have e4 := cell_of_block hc1.out 4
        simp only [wcur] at d0 d1 d2 d3 d4 e0 e1 e2 e3 e4
        go_wp2
        refine bodyPost_ret (v := .tuple #[.agg (wcur false m k), .bool true]) (by simp [results, Try.results69, go_sem, d0, d1, d2, d3, d4, wcur]) rfl ⟨?_, ?_⟩
        · have e := HK.out
          rw [HZ.out, ← wcur_all, e.1, e.2]
        · exact ext_set (ext_set (ext_set (ext_set (ext_set hE (Nat.le_refl _) _ _) (Nat.le_refl _) _ _) (Nat.le_refl _) _ _) (Nat.le_refl _) _ _) (Nat.le_refl _) _ _
  · subst hL0
    have hd : decide (n ≠ 0) = false := by simp; omega
    have HZ : Hid (natV (true && decide (n ≠ 0)) n = natV false n) := by rw [hd]; exact rfl
    clear hd hz hL
    have hb0 := hide (show ((w.alloc (.cells (wcur false [] 0) 32)).alloc (.cells (wcur false m 0) 32)).heap[w.heap.size]? = some (.cells (wcur false [] 0) 32 (0, 0)) from (two_blocks _ _ _).1)
    have hb1 := hide (show ((w.alloc (.cells (wcur false [] 0) 32)).alloc (.cells (wcur false m 0) 32)).heap[w.heap.size + 1]? = some (.cells (wcur false m 0) 32 (0, 0)) from (two_blocks _ _ _).2)
    have hx2 := hide ((ext_alloc w (.cells (wcur false [] 0) 32)).trans (ext_alloc _ (.cells (wcur false m 0) 32)))
    have HK : Hid (limbs n = m ∧ m.length = 0) := ⟨HM.out, HL.out⟩
    go_enter Try.func69, Try.ntmps69
    go_wp2_with (go_at_call 86; refine (trim_any _ _ _ _ (h.ext (ext_alloc w _))).mono ?_; rintro e w' ⟨v3, rfl, hv3, rfl⟩; rw [HN.out] at hv3; obtain ⟨a3, c3, rfl, h3a, h3b, _⟩ := hv3.shape 0 HL.out)
    go_loopw [7] (fun i wr => ∃ k : Nat, i = .int .i64 k ∧ k ≤ 0 ∧ Hid (wr.heap[w.heap.size]? = some (.cells (wcur false [] 0) 32 (0, 0))) ∧ Hid (wr.heap[w.heap.size + 1]? = some (.cells (wcur false m k) 32 (0, 0))) ∧ Words C wr (.slice a3 0 c3) m ∧ Ext w wr) (fun i _ => 0 - (intOf i).toNat)
    case atStart => exact ⟨0, rfl, by omega, hb0, hb1, hv3.ext (ext_alloc _ _), hx2.out⟩
    case round =>
      obtain ⟨k, rfl, hk, hc0, hc1, hW, hE⟩ := hrel
      · obtain rfl : k = 0 := by omega
        have d0 := cell_of_block hc0.out 0
        have d1 := cell_of_block hc0.out 1
        have d2 := cell_of_block hc0.out 2
        have d3 := cell_of_block hc0.out 3
        have d4 := cell_of_block hc0.out 4
        have f0 := free_of_block hc0.out 0
        have f1 := free_of_block hc0.out 1
        have f2 := free_of_block hc0.out 2
        have f3 := free_of_block hc0.out 3
        have f4 := free_of_block hc0.out 4
        have e0 := cell_of_block hc1.out 0
        have e1 := cell_of_block hc1.out 1
        have e2 := cell_of_block hc1.out 2
        have e3 := cell_of_block hc1.out 3
        have e4 := cell_of_block hc1.out 4
        simp only [wcur] at d0 d1 d2 d3 d4 e0 e1 e2 e3 e4
        go_wp2
        refine bodyPost_ret (v := .tuple #[.agg (wcur false m 0), .bool true]) (by simp [results, Try.results69, go_sem, d0, d1, d2, d3, d4, wcur]) rfl ⟨?_, ?_⟩
        · have e := HK.out
          rw [HZ.out, ← wcur_all, e.1, e.2]
        · exact ext_set (ext_set (ext_set (ext_set (ext_set hE (Nat.le_refl _) _ _) (Nat.le_refl _) _ _) (Nat.le_refl _) _ _) (Nat.le_refl _) _ _) (Nat.le_refl _) _ _
  · have hd : decide (n ≠ 0) = true := by simp; omega
    have HZ : Hid (natV (true && decide (n ≠ 0)) n = natV true n) := by rw [hd]; exact rfl
    clear hd hz hL
    have hb0 := hide (show ((w.alloc (.cells (wcur false [] 0) 32)).alloc (.cells (wcur true m 0) 32)).heap[w.heap.size]? = some (.cells (wcur false [] 0) 32 (0, 0)) from (two_blocks _ _ _).1)
    have hb1 := hide (show ((w.alloc (.cells (wcur false [] 0) 32)).alloc (.cells (wcur true m 0) 32)).heap[w.heap.size + 1]? = some (.cells (wcur true m 0) 32 (0, 0)) from (two_blocks _ _ _).2)
    have hx2 := hide ((ext_alloc w (.cells (wcur false [] 0) 32)).trans (ext_alloc _ (.cells (wcur true m 0) 32)))
    have HK : Hid (limbs n = m ∧ m.length = L) := ⟨HM.out, HL.out⟩
    go_enter Try.func69, Try.ntmps69
    go_wp2_with (go_at_call 86; refine (trim_any _ _ _ _ (h.ext (ext_alloc w _))).mono ?_; rintro e w' ⟨v3, rfl, hv3, rfl⟩; rw [HN.out] at hv3; obtain ⟨a3, c3, rfl, h3a, h3b, _⟩ := hv3.shape L HL.out)
    go_loopw [7] (fun i wr => ∃ k : Nat, i = .int .i64 k ∧ k ≤ L ∧ Hid (wr.heap[w.heap.size]? = some (.cells (wcur false [] 0) 32 (0, 0))) ∧ Hid (wr.heap[w.heap.size + 1]? = some (.cells (wcur true m k) 32 (0, 0))) ∧ Words C wr (.slice a3 L c3) m ∧ Ext w wr) (fun i _ => L - (intOf i).toNat)
    case atStart => exact ⟨0, rfl, by omega, hb0, hb1, hv3.ext (ext_alloc _ _), hx2.out⟩
    case round =>
      obtain ⟨k, rfl, hk, hc0, hc1, hW, hE⟩ := hrel
      by_cases hkl : k < L
      · obtain ⟨g, rfl, hg0, hg, cg, fg⟩ := hW.at k (by rw [HK.out.2]; exact hkl)
        have HS : Hid ((wcur true m k).setIfInBounds (k + 1) (.int .u64 ((m[k]'(by rw [HK.out.2]; exact hkl) : Nat) : Int)) = wcur true m (k + 1)) := wcur_set true m k (by omega) (by rw [HK.out.2]; exact hkl)
        obtain ⟨x, hx⟩ : ∃ x, m[k]'(by rw [HK.out.2]; exact hkl) = x := ⟨_, rfl⟩
        rw [hx] at cg HS
        clear hx
        have hfr := free_of_block hc1.out (k + 1)
        have hsz : 1 + k = k + 1 := by omega
        have hk4 : (k : Int) < 4 := by omega
        have hce : wr.cell? ⟨w.heap.size + 1, k + 1, none⟩ = some (.int .u64 0) := by rw [cell_of_block hc1.out, wcur_zero _ _ _ (by omega)]
        have H0 := hide (show (wr.setCell ⟨w.heap.size + 1, k + 1, none⟩ (.int .u64 (x : Int))).heap[w.heap.size]? = some (.cells (wcur false [] 0) 32 (0, 0)) from (heap_setCell_other wr ⟨w.heap.size + 1, k + 1, none⟩ w.heap.size _ (by simp)).trans hc0.out)
        have H1 : Hid ((wr.setCell ⟨w.heap.size + 1, k + 1, none⟩ (.int .u64 (x : Int))).heap[w.heap.size + 1]? = some (.cells (wcur true m (k + 1)) 32 (0, 0))) := by rw [← HS.out]; exact store_block hc1.out _ _
        have HW := hide (hW.store_other hc1.out (k + 1) (.int .u64 (x : Int)))
        have HE := hide (ext_set hE (g := w.heap.size + 1) (by omega) (k + 1) (.int .u64 (x : Int)))
        go_wp2
        exact ⟨⟨k + 1, by go_num, by omega, H0, H1, HW.out, HE.out⟩, by simp [intOf]; omega⟩
      · obtain rfl : k = L := by omega
        have d0 := cell_of_block hc0.out 0
        have d1 := cell_of_block hc0.out 1
        have d2 := cell_of_block hc0.out 2
        have d3 := cell_of_block hc0.out 3
        have d4 := cell_of_block hc0.out 4
        have f0 := free_of_block hc0.out 0
        have f1 := free_of_block hc0.out 1
        have f2 := free_of_block hc0.out 2
        have f3 := free_of_block hc0.out 3
        have f4 := free_of_block hc0.out 4
        have e0 := cell_of_block hc1.out 0
        have e1 := cell_of_block hc1.out 1
        have e2 := cell_of_block hc1.out 2
        have e3 := cell_of_block hc1.out 3
        have e4 := cell_of_block hc1.out 4
        simp only [wcur] at d0 d1 d2 d3 d4 e0 e1 e2 e3 e4
        go_wp2
        refine bodyPost_ret (v := .tuple #[.agg (wcur true m k), .bool true]) (by simp [results, Try.results69, go_sem, d0, d1, d2, d3, d4, wcur]) rfl ⟨?_, ?_⟩
        · have e := HK.out
          rw [HZ.out, ← wcur_all, e.1, e.2]
        · exact ext_set (ext_set (ext_set (ext_set (ext_set hE (Nat.le_refl _) _ _) (Nat.le_refl _) _ _) (Nat.le_refl _) _ _) (Nat.le_refl _) _ _) (Nat.le_refl _) _ _
theorem wide_over (C : Nat) (s : Bool) (v : Value) (l : List Nat) (n : Nat) (w : World) (h : Words C w v l) (hn : val l = n) (hf : 4 < (limbs n).length) :
    Calls Try.prog 69 #[.bool s, v] w (Wide4 (natV false 0) false w) := by
  obtain ⟨m, hm⟩ : ∃ m, limbs n = m := ⟨_, rfl⟩
  obtain ⟨L, hL⟩ : ∃ L, m.length = L := ⟨_, rfl⟩
  rw [hm, hL] at hf
  have HN : Hid (limbs (val l) = m) := by rw [hn]; exact hm
  have HL := hide hL
  have HX := hide (ext_alloc w (.cells #[.bool false, .int .u64 0, .int .u64 0, .int .u64 0, .int .u64 0] 32))
  clear hm hn hL
  go_enter Try.func69, Try.ntmps69
  go_wp2_with (go_at_call 86; refine (trim_any _ _ _ _ (h.ext (ext_alloc w _))).mono ?_; rintro e w' ⟨v3, rfl, hv3, rfl⟩; rw [HN.out] at hv3; obtain ⟨a3, c3, rfl, h3a, h3b, _⟩ := hv3.shape L HL.out)
  exact bodyPost_ret (v := .tuple #[natV false 0, .bool false]) (by simp [results, Try.results69, go_sem, natV, wideV]) rfl ⟨rfl, HX.out⟩
/-- Five cells that stand for the number z, whether they are valid or not. -/
def IsW (s : Bool) (a b c d : Nat) (z : Int) : Prop := a < 18446744073709551616 ∧ b < 18446744073709551616 ∧ c < 18446744073709551616 ∧ d < 18446744073709551616 ∧ z = if s then -(mag4 a b c d : Int) else (mag4 a b c d : Int)
/-- .. and are valid. -/
def IsC (s : Bool) (a b c d : Nat) (z : Int) : Prop := IsW s a b c d z ∧ (s = true → z ≠ 0)
theorem IsC.uniq {s s' : Bool} {a b c d a' b' c' d' : Nat} {z : Int} (h : IsC s a b c d z) (k : IsC s' a' b' c' d' z) : s = s' ∧ a = a' ∧ b = b' ∧ c = c' ∧ d = d' := by
  obtain ⟨⟨h1, h2, h3, h4, h5⟩, h6⟩ := h
  obtain ⟨⟨k1, k2, k3, k4, k5⟩, k6⟩ := k
  simp only [mag4, val] at h5 k5
  cases s <;> cases s' <;> simp at * <;> omega
theorem natV_isC (s : Bool) (n : Nat) (h : (limbs n).length ≤ 4) : ∃ a b c d : Nat, natV (s && decide (n ≠ 0)) n = .agg #[.bool (s && decide (n ≠ 0)), .int .u64 (a : Int), .int .u64 (b : Int), .int .u64 (c : Int), .int .u64 (d : Int)] ∧ IsC (s && decide (n ≠ 0)) a b c d (if s then -(n : Int) else n) := by
  have h4 := limbs_len_le.1 h
  refine ⟨_, _, _, _, rfl, ⟨Nat.mod_lt _ (by omega), Nat.mod_lt _ (by omega), Nat.mod_lt _ (by omega), Nat.mod_lt _ (by omega), ?_⟩, ?_⟩
  · simp only [mag4, val]
    by_cases hn : n = 0
    · subst hn; simp
    · cases s <;> simp [hn] <;> omega
  · cases s <;> simp
/-- A Wide and a bool are returned: z and true if it fits, else 0 and false. -/
def WideRet (z : Int) (w : World) (e : Ending) (w' : World) : Prop := ∃ (s : Bool) (a b c d : Nat) (o : Bool), e = .returned (.tuple #[.agg #[.bool s, .int .u64 (a : Int), .int .u64 (b : Int), .int .u64 (c : Int), .int .u64 (d : Int)], .bool o]) ∧
  o = decide (z.natAbs < 115792089237316195423570985008687907853269984665640564039457584007913129639936) ∧ IsC s a b c d (if z.natAbs < 115792089237316195423570985008687907853269984665640564039457584007913129639936 then z else 0) ∧ Ext w w'
theorem ref_wide (C : Nat) (s : Bool) (v : Value) (l : List Nat) (w : World) (h : Words C w v l) :
    Calls Try.prog 69 #[.bool s, v] w (WideRet (if s then -(val l : Int) else (val l : Int)) w) := by
  have hz : (if s then -(val l : Int) else (val l : Int)).natAbs = val l := by cases s <;> simp
  by_cases hf : (limbs (val l)).length ≤ 4
  · have h4 : val l < 115792089237316195423570985008687907853269984665640564039457584007913129639936 := limbs_len_le.1 hf
    obtain ⟨a, b, c, d, e, hc⟩ := natV_isC s (val l) hf
    refine (wide_fits C s v l (val l) w h rfl hf).mono ?_
    rintro e' w' ⟨rfl, hE⟩
    refine ⟨_, a, b, c, d, true, by rw [e], by rw [hz]; simp [h4], ?_, hE⟩
    rw [hz, if_pos h4]; exact hc
  · have h4 : ¬ val l < 115792089237316195423570985008687907853269984665640564039457584007913129639936 := fun e => hf (limbs_len_le.2 e)
    refine (wide_over C s v l (val l) w h rfl (by omega)).mono ?_
    rintro e' w' ⟨rfl, hE⟩
    refine ⟨false, 0, 0, 0, 0, false, by simp [natV, wideV], by rw [hz]; simp [h4], ?_, hE⟩
    rw [hz, if_neg h4]; exact ⟨⟨by omega, by omega, by omega, by omega, by simp [mag4, val]⟩, by simp⟩
end Go.Proofs.Ytdboaogdanahkaa
/- Valid and clean of the reference of layer 2. Conditions: the cells stand for a number. -/
namespace Go.Proofs.Ytdboaogdanahkaa
set_option linter.unusedVariables false
set_option linter.unusedSimpArgs false
open Go Go.RowKit
theorem rbb {b b' : Bool} (h2 : b = b') : Ending.returned (Value.bool b) = .returned (.bool b') := by rw [h2]
def BoolRet (b : Bool) (w : World) (e : Ending) (w' : World) : Prop := e = .returned (.bool b) ∧ Ext w w'
theorem mag_lt {a b c d : Nat} (ha : a < 18446744073709551616) (hb : b < 18446744073709551616) (hc : c < 18446744073709551616) (hd : d < 18446744073709551616) : mag4 a b c d < 115792089237316195423570985008687907853269984665640564039457584007913129639936 := by
  simp only [mag4, val]; omega
theorem len_pos (n : Nat) : 0 < (limbs n).length ↔ n ≠ 0 := by
  have := @limbs_nil n
  rw [← List.length_eq_zero_iff] at this; omega
theorem ref_valid (s : Bool) (a b c d : Nat) (z : Int) (w : World) (h : IsW s a b c d z) :
    Calls Try.prog 84 #[.agg #[.bool s, .int .u64 (a : Int), .int .u64 (b : Int), .int .u64 (c : Int), .int .u64 (d : Int)]] w (BoolRet (!s || decide (z ≠ 0)) w) := by
  obtain ⟨ha, hb, hc, hd, hz⟩ := h
  obtain ⟨n, hn⟩ : ∃ n, mag4 a b c d = n := ⟨_, rfl⟩
  have HX := hide (ext_alloc w (.cells #[.bool s, .int .u64 (a : Int), .int .u64 (b : Int), .int .u64 (c : Int), .int .u64 (d : Int)] 32))
  have HN := hide hn
  obtain ⟨L, hL⟩ : ∃ L, (limbs n).length = L := ⟨_, rfl⟩
  have HL := hide hL
  have hp := len_pos n
  rw [hL] at hp
  rw [hn] at hz
  cases s
  · have HB : Hid ((!false || decide (z ≠ 0)) = true) := by simp [Hid]
    clear hp hz hn hL
    go_enter Try.func84, Try.ntmps84
    go_wp2
    go_ret
    exact ⟨rbb HB.out.symm, HX.out⟩
  · have HB : Hid ((!true || decide (z ≠ 0)) = decide (0 < L)) := by
      simp only [if_true] at hz
      have e : decide (z ≠ 0) = decide (0 < L) := by rw [decide_eq_decide]; omega
      rw [e]; exact rfl
    clear hp hz hn hL
    go_enter Try.func84, Try.ntmps84
    go_wp2_with (go_at_call 66; refine (of_any w.heap.size true a b c d _ (Nat.le_trans (Nat.le_refl _) HX.out.size) ha hb hc hd).mono ?_; rintro e w' ⟨v, rfl, hv, hE⟩; rw [HN.out] at hv; obtain ⟨a3, c3, rfl, h3a, h3b, _⟩ := hv.shape L HL.out)
    go_ret
    exact ⟨rbb (by first | exact HB.out.symm | (rw [HB.out]; simp)), HX.out.trans hE⟩

theorem two_kept {w w' : World} {o p : Obj} (h : Ext ((w.alloc o).alloc p) w') : w'.heap[w.heap.size]? = some o ∧ w'.heap[w.heap.size + 1]? = some p := by
  obtain ⟨h1, h2⟩ := two_blocks w o p
  have hs : ((w.alloc o).alloc p).heap.size = w.heap.size + 1 + 1 := by simp
  exact ⟨(h.block _ (by omega)).trans h1, (h.block _ (by omega)).trans h2⟩
theorem five_cells {w : World} {b : Nat} {v0 v1 v2 v3 v4 : Value} {e : TypeId} (h : w.heap[b]? = some (.cells #[v0, v1, v2, v3, v4] e (0, 0))) :
    w.cell? ⟨b, 0, none⟩ = some v0 ∧ w.cell? ⟨b, 1, none⟩ = some v1 ∧ w.cell? ⟨b, 2, none⟩ = some v2 ∧ w.cell? ⟨b, 3, none⟩ = some v3 ∧ w.cell? ⟨b, 4, none⟩ = some v4 ∧
    w.frozen? ⟨b, 0, none⟩ = false ∧ w.frozen? ⟨b, 1, none⟩ = false ∧ w.frozen? ⟨b, 2, none⟩ = false ∧ w.frozen? ⟨b, 3, none⟩ = false ∧ w.frozen? ⟨b, 4, none⟩ = false := by
  refine ⟨?_, ?_, ?_, ?_, ?_, free_of_block h 0, free_of_block h 1, free_of_block h 2, free_of_block h 3, free_of_block h 4⟩ <;> (rw [cell_of_block h]; rfl)
theorem ext_five {W w : World} (h : Ext W w) {b : Nat} (hb : W.heap.size ≤ b) (u0 u1 u2 u3 u4 : Value) : Ext W (((((w.setCell ⟨b, 0, none⟩ u0).setCell ⟨b, 1, none⟩ u1).setCell ⟨b, 2, none⟩ u2).setCell ⟨b, 3, none⟩ u3).setCell ⟨b, 4, none⟩ u4) :=
  ext_set (ext_set (ext_set (ext_set (ext_set h hb _ _) hb _ _) hb _ _) hb _ _) hb _ _
/-- A Wide is returned that stands for z and is valid. -/
def WideOnly (z : Int) (w : World) (e : Ending) (w' : World) : Prop := ∃ (s : Bool) (a b c d : Nat), e = .returned (.agg #[.bool s, .int .u64 (a : Int), .int .u64 (b : Int), .int .u64 (c : Int), .int .u64 (d : Int)]) ∧ IsC s a b c d z ∧ Ext w w'
theorem ref_clean (s : Bool) (a b c d : Nat) (z : Int) (w : World) (h : IsW s a b c d z) :
    Calls Try.prog 64 #[.agg #[.bool s, .int .u64 (a : Int), .int .u64 (b : Int), .int .u64 (c : Int), .int .u64 (d : Int)]] w (WideOnly z w) := by
  have HX := hide (ext_alloc w (.cells #[.bool s, .int .u64 (a : Int), .int .u64 (b : Int), .int .u64 (c : Int), .int .u64 (d : Int)] 32))
  have HX2 := hide ((ext_alloc w (.cells #[.bool s, .int .u64 (a : Int), .int .u64 (b : Int), .int .u64 (c : Int), .int .u64 (d : Int)] 32)).trans (ext_alloc _ (.cells #[.bool false, .int .u64 0, .int .u64 0, .int .u64 0, .int .u64 0] 32)))
  by_cases hv : (!s || decide (z ≠ 0)) = true
  · have HV := hide hv
    have HC : Hid (IsC s a b c d z) := ⟨h, fun e => by subst e; simpa using hv⟩
    clear hv
    have HH := hide h
    clear h
    go_enter Try.func64, Try.ntmps64
    go_wp2_with (go_at_call 84; refine (ref_valid s a b c d z _ HH.out).mono ?_; rintro e w' ⟨rfl, hE⟩; rw [HV.out]; obtain ⟨q0, q1⟩ := two_kept hE; obtain ⟨c0, c1, c2, c3, c4, f0, f1, f2, f3, f4⟩ := five_cells q0; obtain ⟨d0, d1, d2, d3, d4, g0, g1, g2, g3, g4⟩ := five_cells q1; have HE := hide hE; clear q0 q1 hE)
    exact bodyPost_ret (v := .agg #[.bool s, .int .u64 (a : Int), .int .u64 (b : Int), .int .u64 (c : Int), .int .u64 (d : Int)]) (by simp [results, Try.results64, go_sem, d0, d1, d2, d3, d4]) rfl ⟨s, a, b, c, d, rfl, HC.out, ext_five (HX2.out.trans HE.out) (by simp) _ _ _ _ _⟩
  · have HV : Hid ((!s || decide (z ≠ 0)) = false) := by unfold Hid; simpa using hv
    have HC : Hid (IsC false 0 0 0 0 z) := by
      have : z = 0 := by simp at hv; exact hv.2
      subst this
      exact ⟨⟨by omega, by omega, by omega, by omega, by simp [mag4, val]⟩, by simp⟩
    clear hv
    have HH := hide h
    clear h
    go_enter Try.func64, Try.ntmps64
    go_wp2_with (go_at_call 84; refine (ref_valid s a b c d z _ HH.out).mono ?_; rintro e w' ⟨rfl, hE⟩; rw [HV.out]; obtain ⟨q0, q1⟩ := two_kept hE; obtain ⟨d0, d1, d2, d3, d4, g0, g1, g2, g3, g4⟩ := five_cells q1; have HE := hide hE; clear q0 q1 hE)
    exact bodyPost_ret (v := .agg #[.bool false, .int .u64 ((0 : Nat) : Int), .int .u64 ((0 : Nat) : Int), .int .u64 ((0 : Nat) : Int), .int .u64 ((0 : Nat) : Int)]) (by simp [results, Try.results64, go_sem, d0, d1, d2, d3, d4]) rfl ⟨false, 0, 0, 0, 0, rfl, HC.out, ext_five (HX2.out.trans HE.out) (by simp) _ _ _ _ _⟩
end Go.Proofs.Ytdboaogdanahkaa
/- Sign, Of and OfUnsigned of the reference of layer 2. Conditions: the cells stand for a number; the numbers are of 64 bits. -/
namespace Go.Proofs.Ytdboaogdanahkaa
set_option linter.unusedVariables false
set_option linter.unusedSimpArgs false
open Go Go.RowKit
def IntRet (k : IntKind) (x : Int) (w : World) (e : Ending) (w' : World) : Prop := e = .returned (.int k x) ∧ Ext w w'
theorem one_kept {w w' : World} {o : Obj} (h : Ext (w.alloc o) w') : w'.heap[w.heap.size]? = some o := by
  have hs : (w.alloc o).heap.size = w.heap.size + 1 := by simp
  exact (h.block _ (by omega)).trans (heap_alloc_new w o)
theorem ref_sign (s : Bool) (a b c d : Nat) (z : Int) (w : World) (h : IsW s a b c d z) :
    Calls Try.prog 37 #[.agg #[.bool s, .int .u64 (a : Int), .int .u64 (b : Int), .int .u64 (c : Int), .int .u64 (d : Int)]] w (IntRet .i64 z.sign w) := by
  obtain ⟨ha, hb, hc, hd, hz⟩ := h
  obtain ⟨n, hn⟩ : ∃ n, mag4 a b c d = n := ⟨_, rfl⟩
  have HX := hide (ext_alloc w (.cells #[.bool s, .int .u64 (a : Int), .int .u64 (b : Int), .int .u64 (c : Int), .int .u64 (d : Int)] 32))
  have HN := hide hn
  obtain ⟨L, hL⟩ : ∃ L, (limbs n).length = L := ⟨_, rfl⟩
  have HL := hide hL
  have hp := len_pos n
  rw [hL] at hp
  rw [hn] at hz
  have hS : L = 0 ∧ z = 0 ∨ 0 < L ∧ s = true ∧ z < 0 ∨ 0 < L ∧ s = false ∧ 0 < z := by cases s <;> simp at hz <;> simp <;> omega
  clear hz hp hL hn
  rcases hS with ⟨rfl, h1⟩ | ⟨h0, rfl, h1⟩ | ⟨h0, rfl, h1⟩
  · have HS : Hid (z.sign = 0) := by subst h1; rfl
    clear h1
    go_enter Try.func37, Try.ntmps37
    go_wp2_with (go_at_call 66; refine (of_any w.heap.size s a b c d _ (Nat.le_trans (Nat.le_refl _) HX.out.size) ha hb hc hd).mono ?_; rintro e w' ⟨v, rfl, hv, hE⟩; rw [HN.out] at hv; obtain ⟨a3, c3, rfl, h3a, h3b, _⟩ := hv.shape 0 HL.out)
    go_ret
    exact ⟨rb1 HS.out.symm, HX.out.trans hE⟩
  · have HS : Hid (z.sign = -1) := Int.sign_eq_neg_one_of_neg h1
    clear h1
    go_enter Try.func37, Try.ntmps37
    go_wp2_with (go_at_call 66; refine (of_any w.heap.size true a b c d _ (Nat.le_trans (Nat.le_refl _) HX.out.size) ha hb hc hd).mono ?_; rintro e w' ⟨v, rfl, hv, hE⟩; rw [HN.out] at hv; obtain ⟨a3, c3, rfl, h3a, h3b, _⟩ := hv.shape L HL.out; obtain ⟨d0, _⟩ := five_cells (one_kept hE))
    go_ret
    exact ⟨rb1 HS.out.symm, HX.out.trans hE⟩
  · have HS : Hid (z.sign = 1) := Int.sign_eq_one_of_pos h1
    clear h1
    go_enter Try.func37, Try.ntmps37
    go_wp2_with (go_at_call 66; refine (of_any w.heap.size false a b c d _ (Nat.le_trans (Nat.le_refl _) HX.out.size) ha hb hc hd).mono ?_; rintro e w' ⟨v, rfl, hv, hE⟩; rw [HN.out] at hv; obtain ⟨a3, c3, rfl, h3a, h3b, _⟩ := hv.shape L HL.out; obtain ⟨d0, _⟩ := five_cells (one_kept hE))
    go_ret
    exact ⟨rb1 HS.out.symm, HX.out.trans hE⟩
theorem ref_ofu (n : Nat) (w : World) (hn : n < 18446744073709551616) : Calls Try.prog 95 #[.int .u64 (n : Int)] w (WideOnly n w) := by
  have hc : IsC false n 0 0 0 n := ⟨⟨hn, by omega, by omega, by omega, by simp [mag4, val]⟩, by simp⟩
  have HX := hide (ext_alloc w (.cells #[.bool false, .int .u64 (n : Int), .int .u64 0, .int .u64 0, .int .u64 0] 32))
  go_enter Try.func95, Try.ntmps95
  go_wp2
  exact bodyPost_ret (v := .agg #[.bool false, .int .u64 (n : Int), .int .u64 ((0 : Nat) : Int), .int .u64 ((0 : Nat) : Int), .int .u64 ((0 : Nat) : Int)]) (by simp [results, Try.results95, go_sem]) rfl ⟨false, n, 0, 0, 0, rfl, hc, HX.out⟩
theorem ref_ofi (z : Int) (w : World) (h1 : -9223372036854775808 ≤ z) (h2 : z ≤ 9223372036854775807) : Calls Try.prog 35 #[.int .i64 z] w (WideOnly z w) := by
  obtain ⟨n, hn⟩ : ∃ n, z.natAbs = n := ⟨_, rfl⟩
  have hc : IsC (decide (z < 0)) n 0 0 0 z := ⟨⟨by omega, by omega, by omega, by omega, by simp [mag4, val]; split <;> omega⟩, by simp; omega⟩
  have hneg : z < 0 → IntKind.u64.wrap (-IntKind.u64.wrap z) = (n : Int) := by intro h; simp only [IntKind.wrap_u64]; omega
  have hpos : 0 ≤ z → IntKind.u64.wrap z = (n : Int) := by intro h; simp only [IntKind.wrap_u64]; omega
  by_cases h : z < 0
  · have e := hneg h
    have HX := hide (ext_alloc w (.cells #[.bool true, .int .u64 (n : Int), .int .u64 0, .int .u64 0, .int .u64 0] 32))
    have HC : Hid (IsC true n 0 0 0 z) := by have h2 := hc; simp only [h, decide_true] at h2; exact h2
    clear hneg hpos hn hc
    go_enter Try.func35, Try.ntmps35
    go_wp2
    exact bodyPost_ret (v := .agg #[.bool true, .int .u64 (n : Int), .int .u64 ((0 : Nat) : Int), .int .u64 ((0 : Nat) : Int), .int .u64 ((0 : Nat) : Int)]) (by simp [results, Try.results35, go_sem]) rfl ⟨true, n, 0, 0, 0, rfl, HC.out, HX.out⟩
  · have e := hpos (by omega)
    have HX := hide (ext_alloc w (.cells #[.bool false, .int .u64 (n : Int), .int .u64 0, .int .u64 0, .int .u64 0] 32))
    have HC : Hid (IsC false n 0 0 0 z) := by have h2 := hc; simp only [h, decide_false] at h2; exact h2
    clear hneg hpos hn hc
    go_enter Try.func35, Try.ntmps35
    go_wp2
    exact bodyPost_ret (v := .agg #[.bool false, .int .u64 (n : Int), .int .u64 ((0 : Nat) : Int), .int .u64 ((0 : Nat) : Int), .int .u64 ((0 : Nat) : Int)]) (by simp [results, Try.results35, go_sem]) rfl ⟨false, n, 0, 0, 0, rfl, HC.out, HX.out⟩
end Go.Proofs.Ytdboaogdanahkaa
/- Blocks that hold a Wide. No condition. -/
namespace Go.Proofs.Ytdboaogdanahkaa
set_option linter.unusedVariables false
set_option linter.unusedSimpArgs false
open Go Go.RowKit
theorem keep5 {w w' : World} (h : Ext w w') {b : Nat} {o : Obj} (k : w.heap[b]? = some o) : w'.heap[b]? = some o := by
  have hb : b < w.heap.size := (Array.getElem?_eq_some_iff.1 k).1
  exact (h.block b hb).trans k
/-- Block g holds a Wide. -/
def Box (W : World) (g : Nat) (s : Bool) (a b c d : Nat) : Prop := W.heap[g]? = some (.cells #[.bool s, .int .u64 (a : Int), .int .u64 (b : Int), .int .u64 (c : Int), .int .u64 (d : Int)] 32 (0, 0))
theorem Box.ext {w w' : World} {g : Nat} {s : Bool} {a b c d : Nat} (k : Box w g s a b c d) (h : Ext w w') : Box w' g s a b c d := keep5 h k
theorem Box.drew {w : World} {g : Nat} {s : Bool} {a b c d : Nat} (k : Box w g s a b c d) : Box w.drew g s a b c d := k
theorem Box.put {w : World} {g : Nat} {s t : Bool} {a b c d a' b' c' d' : Nat} (k : Box w g s a b c d) : Box (((((w.setCell ⟨g, 0, none⟩ (.bool t)).setCell ⟨g, 1, none⟩ (.int .u64 (a' : Int))).setCell ⟨g, 2, none⟩ (.int .u64 (b' : Int))).setCell ⟨g, 3, none⟩ (.int .u64 (c' : Int))).setCell ⟨g, 4, none⟩ (.int .u64 (d' : Int))) g t a' b' c' d' := by
  have h := store_block (store_block (store_block (store_block (store_block k 0 (.bool t)) 1 (.int .u64 (a' : Int))) 2 (.int .u64 (b' : Int))) 3 (.int .u64 (c' : Int))) 4 (.int .u64 (d' : Int))
  exact h
theorem Box.far {w : World} {g b' : Nat} {s : Bool} {a b c d : Nat} (k : Box w g s a b c d) (h : g ≠ b') (u0 u1 u2 u3 u4 : Value) : Box (((((w.setCell ⟨b', 0, none⟩ u0).setCell ⟨b', 1, none⟩ u1).setCell ⟨b', 2, none⟩ u2).setCell ⟨b', 3, none⟩ u3).setCell ⟨b', 4, none⟩ u4) g s a b c d := by
  unfold Box at *
  rw [heap_setCell_other _ _ _ _ (by simpa using h), heap_setCell_other _ _ _ _ (by simpa using h), heap_setCell_other _ _ _ _ (by simpa using h), heap_setCell_other _ _ _ _ (by simpa using h), heap_setCell_other _ _ _ _ (by simpa using h)]
  exact k
theorem three_boxes (w : World) (o p q : Obj) : (((w.alloc o).alloc p).alloc q).heap[w.heap.size]? = some o ∧ (((w.alloc o).alloc p).alloc q).heap[w.heap.size + 1]? = some p ∧ (((w.alloc o).alloc p).alloc q).heap[w.heap.size + 1 + 1]? = some q := by
  obtain ⟨h1, h2⟩ := two_blocks w o p
  have h3 := heap_alloc_new ((w.alloc o).alloc p) q
  have hs : ((w.alloc o).alloc p).heap.size = w.heap.size + 1 + 1 := by simp
  rw [hs] at h3
  exact ⟨keep5 (ext_alloc _ _) h1, keep5 (ext_alloc _ _) h2, h3⟩
/-- What lies in the three boxes of a function of two Wides. -/
def Two (w : World) (x y : Int) (wx : World) : Prop := ∃ (s : Bool) (a b c d : Nat) (t : Bool) (e f g h : Nat), IsC s a b c d x ∧ IsC t e f g h y ∧ Box wx w.heap.size s a b c d ∧ Box wx (w.heap.size + 1) t e f g h ∧ Box wx (w.heap.size + 1 + 1) false 0 0 0 0 ∧ Ext w wx
theorem Box.lt {w : World} {g : Nat} {s : Bool} {a b c d : Nat} (k : Box w g s a b c d) : g < w.heap.size := (Array.getElem?_eq_some_iff.1 k).1
theorem Box.new (w : World) (s : Bool) (a b c d : Nat) : Box (w.alloc (.cells #[.bool s, .int .u64 (a : Int), .int .u64 (b : Int), .int .u64 (c : Int), .int .u64 (d : Int)] 32)) w.heap.size s a b c d := heap_alloc_new w _
theorem Box.new0 (w : World) : Box (w.alloc (.cells #[.bool false, .int .u64 0, .int .u64 0, .int .u64 0, .int .u64 0] 32)) w.heap.size false 0 0 0 0 := heap_alloc_new w _
theorem Ext.al {w W : World} (h : Ext w W) (o : Obj) : Ext w (W.alloc o) := h.trans (ext_alloc _ _)
theorem Ext.dr {w W : World} (h : Ext w W) : Ext w W.drew := h.trans (ext_drew _)
end Go.Proofs.Ytdboaogdanahkaa
