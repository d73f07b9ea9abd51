/- The program's Append and AppendSigned. Conditions: the slice reads as at most 2^47 - 64 bytes. -/
import Derived.Test.YtdboaogdanahkaaVarC
import Derived.Test.YtdboaogdanahkaaVarA
namespace Go.Proofs.Ytdboaogdanahkaa
set_option linter.unusedVariables false
set_option linter.unusedSimpArgs false
open Go Go.RowKit
def StV (v g j : Nat) (w : World) : Prop := Blk w g 28 #[.int .u64 ((v / 128 ^ j : Nat) : Int)]
theorem p_next1 (v g j : Nat) (w : World) (hv : v < 18446744073709551616) (h : StV v g j w) : Calls Try.prog 49 #[.pointer (some ⟨g, 0, none⟩)] w (fun e w' => e = .returned (.int .u8 (gr v j : Int)) ∧ StV v g (j + 1) w' ∧ Upd g w w') := by
  have hx : v / 128 ^ j < 18446744073709551616 := Nat.lt_of_le_of_lt (Nat.div_le_self _ _) hv
  have hs := hide (Blk.set_ h 0 (.int .u64 ((v / 128 ^ (j + 1) : Nat) : Int)))
  have e1 : Hid (v / 128 ^ (j + 1) = v / 128 ^ j / 128) := by
    show _ = _
    rw [Nat.pow_succ, Nat.div_div_eq_div_mul]
  have e2 : Hid (gr v j = v / 128 ^ j % 128) := rfl
  have f0 := h.frozen 0
  have c0 : w.cell? ⟨g, 0, none⟩ = some (.int .u64 ((v / 128 ^ j : Nat) : Int)) := h.cell 0
  obtain ⟨x, hxx⟩ : ∃ x, v / 128 ^ j = x := ⟨_, rfl⟩
  rw [hxx] at c0 e1 e2 hx
  have hm : x % 128 < 256 := by omega
  clear h hxx
  have eg : Hid (∀ y : Int, y = (x : Int) % 128 → Ending.returned (.int .u8 y) = .returned (.int .u8 (gr v j : Int))) := fun y hy => by rw [hy, e2.out]; rfl
  have es : Hid (∀ y : Int, y = (x : Int) / 128 → StV v g (j + 1) (w.setCell ⟨g, 0, none⟩ (.int .u64 y))) := fun y hy => by
    have := hs.out
    rw [e1.out] at this
    rw [hy]
    unfold StV
    rw [e1.out]
    simpa using this
  clear hs e1 e2
  go_enter Try.func49, Try.ntmps49
  go_wp2_with fail
  go_ret
  exact ⟨eg.out _ rfl, es.out _ rfl, upd_set _ _ _ _⟩
theorem yields1 (v g : Nat) (hv : v < 18446744073709551616) : Yields 49 #[.pointer (some ⟨g, 0, none⟩)] g (StV v g) (gr v) :=
  ⟨fun j w h => p_next1 v g j w hv h, fun j w w' h hs e => e.trans h, fun w => by go_simp, fun j => gr_lt v j, fun j w h => h.lt⟩
theorem qs_grs (v k : Nat) : qs (gr v) k = grs v k := by
  induction k with
  | zero => rfl
  | succ k ih => simp [qs, grs, ih]
set_option maxRecDepth 100000 in
theorem p_vappend (A : Option Addr) (c cap v : Nat) (l : List Nat) (W : World) (hb : BytesAt W A l) (hc : l.length = c) (hlen : c ≤ 140737488355264) (hv : v < 18446744073709551616) :
    Calls Try.prog 22 #[.slice A c cap, .int .u64 (v : Int)] W (OwnRet (l ++ encB v) W) := by
  obtain ⟨k, hk⟩ : ∃ k, (encB v).length = k + 1 := ⟨(encB v).length - 1, by have := encB_pos v; omega⟩
  have hk9 : k ≤ 9 := by
    have := encB_length_le v 9 (by omega)
    omega
  have e := encB_grs v k hk
  have E0 := ext_alloc W (.cells #[.int .u64 (v : Int)] 28)
  have hB : Blk (W.alloc (.cells #[.int .u64 (v : Int)] 28)) W.heap.size 28 #[.int .u64 (v : Int)] := Blk.new W _ _
  have hS : StV v W.heap.size 0 (W.alloc (.cells #[.int .u64 (v : Int)] 28)) := by
    unfold StV; simpa using hB
  have KZ : Hid (∀ w, Calls Try.prog 42 #[.int .u64 (v : Int)] w (RetSame (.int .i64 ((k : Int) + 1)) w)) := fun w => by
    have := p_size v w hv
    rw [hk] at this
    exact this
  have KA : Hid (Calls Try.prog 48 #[.slice A c cap, .int .i64 ((k : Int) + 1), .func (.func 49) #[] #[.pointer (some ⟨W.heap.size, 0, none⟩)]] (W.alloc (.cells #[.int .u64 (v : Int)] 28)) (OwnUpd W.heap.size (l ++ encB v) (W.alloc (.cells #[.int .u64 (v : Int)] 28)))) := by
    have := p_ag 49 W.heap.size (StV v W.heap.size) (gr v) A c cap k l _ (yields1 v W.heap.size hv) hS (hb.ext E0) hc hlen (by omega)
    rw [qs_grs, ← e] at this
    exact this
  have hmf : ∀ (fn : Fn) (first cap : Array Value) (w : World), (Instr.makeFunc fn first cap).run Try.prog w = .ok (.func fn first cap) w := fun _ _ _ _ => rfl
  have c0 : (W.alloc (.cells #[.int .u64 (v : Int)] 28)).cell? ⟨W.heap.size, 0, none⟩ = some (.int .u64 (v : Int)) := hB.cell 0
  have HE := hide E0
  clear hk e hS hB hb hc E0
  go_enter Try.func22, Try.ntmps22
  go_wp2_with (first
    | (go_at_call 42; (with_reducible refine (KZ.out _).mono ?_); rintro e w1 ⟨rfl, rfl⟩)
    | (go_at_call 48; (with_reducible refine (KA.out).mono ?_); rintro e w2 ⟨u, rfl, hO, hU⟩))
  go_ret
  exact ⟨_, rfl, hO.less HE.out.size, Upd.ext hU HE.out (Nat.le_refl _)⟩
end Go.Proofs.Ytdboaogdanahkaa
