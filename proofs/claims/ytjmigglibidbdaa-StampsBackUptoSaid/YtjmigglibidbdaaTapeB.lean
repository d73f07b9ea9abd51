/- What the makers' tape returns: New, Mod, Next, Word and Int. Conditions: the numbers of the tape lie in memory that was there, and are numbers of 64 bits. -/
import Derived.Test.YtjmigglibidbdaaWrd1
import Derived.Test.YtjmigglibidbdaaBits
import Derived.Below
namespace Go.Proofs.Ytjmigglibidbdaa
set_option linter.unusedVariables false
set_option linter.unusedSimpArgs false
open Go Go.RowKit
def I64 (a : Int) : Prop := -9223372036854775808 ≤ a ∧ a ≤ 9223372036854775807

/-- A number from 0 to n - 1, or 0 if n is less than 1. -/
def InN (n v : Int) : Prop := 0 ≤ v ∧ (1 ≤ n → v < n) ∧ (n < 1 → v = 0)
def IntIn (P : Int → Prop) (k : IntKind) (w : World) (e : Ending) (w' : World) : Prop := ∃ v : Int, e = .returned (.int k v) ∧ P v ∧ w = w'

def modN (a n : Int) : Int := if n < 1 then 0 else if a.tmod n < 0 then a.tmod n + n else a.tmod n
theorem modN_in (a n : Int) : InN n (modN a n) := by
  unfold InN modN
  have ht := tq a n
  split
  · omega
  · have h2 := (ht (by omega)).2.1
    split <;> omega
theorem t_mod (a n : Int) (w : World) (ha : I64 a) (hn : I64 n) :
    Calls Try.prog 17 #[.int .i64 a, .int .i64 n] w fun e w' => e = .returned (.int .i64 (modN a n)) ∧ w' = w := by
  obtain ⟨a1, a2⟩ := ha
  obtain ⟨n1, n2⟩ := hn
  by_cases h : n < 1
  · go_enter Try.func17, Try.ntmps17
    go_wp2
    go_ret
    exact ⟨rb1 (by simp only [modN]; omega), rfl⟩
  · have t1 : (a.tmod n).natAbs < n.natAbs := (tq a n (by omega)).2.1
    go_enter Try.func17, Try.ntmps17
    go_wp2
    all_goals go_ret
    all_goals exact ⟨rb1 (by simp only [modN]; grind), rfl⟩

/-- The tape lies in block b: its numbers are those of memory below B. -/
def TapeOk (B : Nat) (w : World) (b : Nat) : Prop :=
  B ≤ b ∧ b < w.heap.size ∧ ∃ (a : Option Addr) (len cap at_ : Nat), w.cell? ⟨b, 0, none⟩ = some (.slice a len cap) ∧ w.cell? ⟨b, 1, none⟩ = some (.int .i64 at_) ∧ w.frozen? ⟨b, 1, none⟩ = false ∧ at_ ≤ 9223372036854775807 ∧ len ≤ 9223372036854775807 ∧
    (len = 0 ∨ ∃ xb xo : Nat, a = some ⟨xb, xo, none⟩ ∧ xb < B ∧ len ≤ cap ∧ ∀ i, i < len → ∃ v : Int, I64 v ∧ w.cell? ⟨xb, xo + i, none⟩ = some (.int .i64 v))
theorem TapeOk.below {B b : Nat} {w w' : World} (h : TapeOk B w b) (k : Below (b + 1) w w') : TapeOk B w' b := by
  obtain ⟨h1, h2, a, len, cap, at_, c0, c1, f1, h3, h4, hx⟩ := h
  have hs := k.size
  refine ⟨h1, by omega, a, len, cap, at_, (k.cell (p := ⟨b, 0, none⟩) (by simp)).trans c0, (k.cell (p := ⟨b, 1, none⟩) (by simp)).trans c1, (k.frozen (p := ⟨b, 1, none⟩) (by simp)).trans f1, h3, h4, ?_⟩
  rcases hx with hx | ⟨xb, xo, e, hb, hl, hc⟩
  · exact Or.inl hx
  · refine Or.inr ⟨xb, xo, e, hb, hl, fun i hi => ?_⟩
    obtain ⟨v, hv, cv⟩ := hc i hi
    exact ⟨v, hv, (k.cell (p := ⟨xb, xo + i, none⟩) (by simp; omega)).trans cv⟩
theorem below_drewN' (B : Nat) (w : World) (n : Nat) : Below B w (w.drewN n) := ⟨rfl, rfl, rfl, Nat.le_refl _, fun _ _ => rfl⟩
theorem TapeOk.bump {B b : Nat} {w : World} (h : TapeOk B w b) (k : Int) (h0 : 0 ≤ k) (hk : k ≤ 9223372036854775807) :
    TapeOk B (w.setCell ⟨b, 1, none⟩ (.int .i64 k)) b ∧ Below B w (w.setCell ⟨b, 1, none⟩ (.int .i64 k)) := by
  obtain ⟨k, rfl⟩ := Int.eq_ofNat_of_zero_le h0
  obtain ⟨h1, h2, a, len, cap, at_, c0, c1, f1, h3, h4, hx⟩ := h
  have hb : Below B w (w.setCell ⟨b, 1, none⟩ (.int .i64 k)) := (Below.refl B w).setCell (p := ⟨b, 1, none⟩) h1 _
  refine ⟨⟨h1, by simpa [World.setCell] using h2, a, len, cap, k, ?_, World.cell?_setCell_same _ _ _ c1, ?_, by omega, h4, ?_⟩, hb⟩
  · rw [World.cell?_setCell_other _ _ _ _ (by simp)]; exact c0
  · rw [World.frozen?_setCell]; exact f1
  · rcases hx with hx | ⟨xb, xo, e, hb', hl, hc⟩
    · exact Or.inl hx
    · refine Or.inr ⟨xb, xo, e, hb', hl, fun i hi => ?_⟩
      obtain ⟨v, hv, cv⟩ := hc i hi
      exact ⟨v, hv, (hb.cell (p := ⟨xb, xo + i, none⟩) hb').trans cv⟩
def NextPost (B b : Nat) (P : Int → Prop) (k : IntKind) (w : World) (e : Ending) (w' : World) : Prop := ∃ v : Int, e = .returned (.int k v) ∧ P v ∧ TapeOk B w' b ∧ Upd b w w'

theorem t_next (B b : Nat) (n : Int) (w : World) (hn : I64 n) (hT : TapeOk B w b) :
    Calls Try.prog 10 #[.pointer (some ⟨b, 0, none⟩), .int .i64 n] w (NextPost B b (InN n) .i64 w) := by
  have hT' := hT
  obtain ⟨hB, hb, a, len, cap, at_, c0, c1, f1, h1, h2, hx⟩ := hT'
  by_cases hlt : at_ < len
  · obtain ⟨xb, xo, rfl, hxB, hl, hc⟩ : ∃ xb xo : Nat, a = some ⟨xb, xo, none⟩ ∧ xb < B ∧ len ≤ cap ∧ ∀ i, i < len → ∃ v : Int, I64 v ∧ w.cell? ⟨xb, xo + i, none⟩ = some (.int .i64 v) := by
      rcases hx with hx | hx
      · omega
      · exact hx
    obtain ⟨v, hv, cx⟩ := hc at_ hlt
    have hlt' : ((at_ : Int) < (len : Int)) := by omega
    have hne : ¬ (xb = b) := by omega
    clear hc hx
    have hwr : IntKind.i64.wrap ((at_ : Int) + 1) = (at_ : Int) + 1 := by rw [IntKind.wrap_i64]; omega
    go_enter Try.func10, Try.ntmps10
    go_wp2
    go_quiet (fail)
    go_wp2
    have hw1 : IntKind.i64.wrap ((at_ : Int) + 1 - 1) = (at_ : Int) := by rw [IntKind.wrap_i64]; omega
    have hw0 : (0 : Int) ≤ (at_ : Int) := by omega
    go_quiet ((go_at_call 17; exact Calls.quiet_of_same (t_mod _ _ _ hv hn)))
    go_wp2
    go_ret
    exact ⟨_, rfl, modN_in v n, (TapeOk.bump (hT.below (below_drewN' (b + 1) w _)) _ (by omega) (by omega)).1.below (below_drewN' _ _ _), (((Upd.refl b w).drewN _).set 1 _).drewN _⟩
  · have hge : ((len : Int) ≤ (at_ : Int)) := by omega
    clear hx
    go_enter Try.func10, Try.ntmps10
    go_wp2
    go_quiet (fail)
    go_wp2
    go_ret
    exact ⟨0, rfl, by unfold InN; omega, hT.below (below_drewN' _ _ _), (Upd.refl _ _).drewN _⟩
theorem t_word (B b : Nat) (w : World) (hT : TapeOk B w b) :
    Calls Try.prog 23 #[.pointer (some ⟨b, 0, none⟩)] w (NextPost B b U64 .u64 w) := by
  go_enter Try.func23, Try.ntmps23
  go_wp2_with fail
  go_loopw [3, 4] (fun t i wr => ∃ (k : Nat) (v : Int), k ≤ 4 ∧ i = .int .i64 k ∧ t = .int .u64 v ∧ U64 v ∧ TapeOk B wr b ∧ Upd b w wr) (fun _ i _ => 4 - (intOf i).toNat)
  case atStart => exact ⟨0, 0, by omega, rfl, rfl, by unfold U64; omega, hT, Upd.refl _ _⟩
  case round =>
    obtain ⟨k, v, hk, rfl, rfl, hv, hT', hB⟩ := hrel
    by_cases hlt : k < 4
    · go_wp2_with (go_at_call 10; refine (t_next _ _ _ _ ⟨by omega, by omega⟩ hT').mono ?_; rintro e w' ⟨u, rfl, hu, hT2, hB2⟩)
      exact ⟨⟨k + 1, _, by omega, by go_num, rfl, by unfold U64; rw [wrap_u64']; omega, hT2, hB.trans hB2⟩, by simp [intOf]; omega⟩
    · go_wp2
      go_ret
      exact ⟨_, rfl, hv, hT', hB⟩
theorem t_next' (B b : Nat) (n : Int) (W w : World) (hn : I64 n) (hT : TapeOk B w b) (hW : Upd b W w) :
    Calls Try.prog 10 #[.pointer (some ⟨b, 0, none⟩), .int .i64 n] w (NextPost B b (InN n) .i64 W) :=
  (t_next B b n w hn hT).mono fun _ _ ⟨v, e, h, t, k⟩ => ⟨v, e, h, t, hW.trans k⟩
theorem t_word' (B b : Nat) (W w : World) (hT : TapeOk B w b) (hW : Upd b W w) :
    Calls Try.prog 23 #[.pointer (some ⟨b, 0, none⟩)] w (NextPost B b U64 .u64 W) :=
  (t_word B b w hT).mono fun _ _ ⟨v, e, h, t, k⟩ => ⟨v, e, h, t, hW.trans k⟩
/-- The tape is laid over the numbers of a slice that came in. -/
def NewPost (W : World) (e : Ending) (w' : World) : Prop := e = .returned (.pointer (some ⟨W.heap.size, 0, none⟩)) ∧ TapeOk W.heap.size w' W.heap.size ∧ Below W.heap.size W w'
def IsList (w : World) (a : Option Addr) (len cap : Nat) : Prop :=
  len ≤ 9223372036854775807 ∧ (len = 0 ∨ ∃ xb xo : Nat, a = some ⟨xb, xo, none⟩ ∧ xb < w.heap.size ∧ len ≤ cap ∧ ∀ i, i < len → ∃ v : Int, I64 v ∧ w.cell? ⟨xb, xo + i, none⟩ = some (.int .i64 v))
theorem t_new (W : World) (a : Option Addr) (len cap : Nat) (h : IsList W a len cap) :
    Calls Try.prog 8 #[.slice a len cap] W (NewPost W) := by
  go_enter Try.func8, Try.ntmps8
  go_wp2
  go_ret
  obtain ⟨hl, hx⟩ := h
  have hb : ∀ o, Below W.heap.size W (W.alloc o) := fun o => (Below.refl _ _).alloc (Nat.le_refl _) o
  refine ⟨rfl, ⟨Nat.le_refl _, by simp, a, len, cap, 0, by simp, by simp, ?_, by omega, hl, ?_⟩, hb _⟩
  · go_simp
  · rcases hx with hx | ⟨xb, xo, e, h1, h2, hc⟩
    · exact Or.inl hx
    · refine Or.inr ⟨xb, xo, e, h1, h2, fun i hi => ?_⟩
      obtain ⟨v, hv, cv⟩ := hc i hi
      exact ⟨v, hv, ((hb _).cell (p := ⟨xb, xo + i, none⟩) h1).trans cv⟩
end Go.Proofs.Ytjmigglibidbdaa
