/- Layer 6: CrcBursts. Conditions: the slice reads as bytes. -/
import Derived.Test.YthlficnmpgkceaaLawH
import Derived.Test.YthlficnmpgkceaaBurst
namespace Go.Proofs.Ythlficnmpgkceaa
set_option linter.unusedVariables false
set_option linter.unusedSimpArgs false
open Go Go.RowKit Go.Sort
/-- The bits of the pattern below k that are set. -/
def Pk (pat : Nat) : Nat → Nat
  | 0 => 0
  | k + 1 => if Nat.testBit pat k then Pk pat k ^^^ 2 ^ k else Pk pat k
theorem Pk_lt (pat : Nat) : ∀ k, Pk pat k < 2 ^ k
  | 0 => by simp [Pk]
  | k + 1 => by
    have h := Pk_lt pat k
    have h2 : Pk pat k < 2 ^ (k + 1) := by rw [Nat.pow_succ]; omega
    unfold Pk
    split
    · exact Nat.xor_lt_two_pow h2 (Nat.pow_lt_pow_right (by omega) (by omega))
    · exact h2
theorem Pk_ne (pat k : Nat) (h : Nat.testBit pat k = true) : Pk pat (k + 1) ≠ 0 := by
  intro e
  have h2 := congrArg (fun z => Nat.testBit z k) e
  unfold Pk at h2
  rw [if_pos h] at h2
  simp only [Nat.testBit_xor, Nat.zero_testBit, Nat.testBit_two_pow_self] at h2
  rw [Nat.testBit_lt_two_pow (Pk_lt pat k)] at h2
  simp at h2
/-- What lies in the slice after k steps. -/
structure Bst (m : List Nat) (at_ pat : Nat) (B g : Nat) (rest : List Value) (k : Nat) (ch : Bool) (q : List Nat) (w : World) : Prop where
  b : IsB q
  len : q.length = m.length
  val : valLE q = valLE m ^^^ (Pk pat k <<< at_)
  ch : ch = decide (Pk pat k ≠ 0)
  row : w.heap[g]? = some (.cells (u8s q ++ rest).toArray 5 (0, 0))
theorem Bst.skip {m : List Nat} {at_ pat B g : Nat} {rest : List Value} {k : Nat} {ch : Bool} {q : List Nat} {w : World} (h : Bst m at_ pat B g rest k ch q w) (hb : Nat.testBit pat k = false) : Bst m at_ pat B g rest (k + 1) ch q w := by
  have e : Pk pat (k + 1) = Pk pat k := by show (if _ then _ else _) = _; rw [hb]; rfl
  exact ⟨h.b, h.len, by rw [e]; exact h.val, by rw [e]; exact h.ch, h.row⟩
theorem Bst.flip {m : List Nat} {at_ pat B g : Nat} {rest : List Value} {k : Nat} {ch : Bool} {q : List Nat} {w : World} (h : Bst m at_ pat B g rest k ch q w) (hb : Nat.testBit pat k = true) (hp : at_ + k < 8 * m.length) (x : Nat) (hx : x = q.getD ((at_ + k) / 8) 0 ^^^ 2 ^ ((at_ + k) % 8)) : Bst m at_ pat B g rest (k + 1) true (flip q (at_ + k)) (w.setCell ⟨g, (at_ + k) / 8, none⟩ (.int .u8 (x : Int))) := by
  have e : Pk pat (k + 1) = Pk pat k ^^^ 2 ^ k := by show (if _ then _ else _) = _; rw [hb]; rfl
  refine ⟨flip_b h.b _, by rw [flip_len]; exact h.len, ?_, ?_, ?_⟩
  · rw [valLE_flip q _ h.b (by rw [h.len]; exact hp), h.val, e, Nat.shiftLeft_xor_distrib, Nat.xor_assoc]
    congr 2
    rw [Nat.shiftLeft_eq, ← Nat.pow_add]
    congr 1
    omega
  · rw [decide_eq_true (Pk_ne pat k hb)]
  · have := Blk.set_ (show Blk w g 5 (u8s q ++ rest).toArray from h.row) ((at_ + k) / 8) (.int .u8 (x : Int))
    have e2 : (u8s q ++ rest).toArray.setIfInBounds ((at_ + k) / 8) (.int .u8 (x : Int)) = (u8s (Go.Proofs.Ythlficnmpgkceaa.flip q (at_ + k)) ++ rest).toArray := by
      have hlt : (at_ + k) / 8 < (u8s q).length := by rw [u8s_len, h.len]; omega
      rw [List.setIfInBounds_toArray, List.set_append_left _ _ hlt]
      unfold Go.Proofs.Ythlficnmpgkceaa.flip
      rw [hx]
      simp [u8s, List.map_set]
    rw [e2] at this
    exact this
theorem bit_at (pat k : Nat) (h : pat < 4294967296) : (bits .and .u32 ((pat : Int) / 2 ^ k) 1 == 1) = Nat.testBit pat k := by
  have e : (pat : Int) / 2 ^ k = (((BitVec.ofNat 32 (pat / 2 ^ k)).toNat : Nat) : Int) := by
    have h2 : pat / 2 ^ k ≤ pat := Nat.div_le_self _ _
    rw [BitVec.toNat_ofNat, Nat.mod_eq_of_lt (by omega)]
    simp
  rw [e, and_one32, ← e]
  rw [Nat.testBit_eq_decide_div_mod_eq]
  have e2 : (pat : Int) / 2 ^ k % 2 = ((pat / 2 ^ k % 2 : Nat) : Int) := by simp
  rw [e2]
  by_cases h1 : pat / 2 ^ k % 2 = 1
  · rw [h1]; rfl
  · have h0 : pat / 2 ^ k % 2 = 0 := by omega
    rw [h0]; rfl
theorem xor_bit (y j : Nat) (hy : y < 256) (hj : j < 8) : bits .xor .u8 (y : Int) (2 ^ j % 256) = ((y ^^^ 2 ^ j : Nat) : Int) := by
  have h : 2 ^ j < 256 := Nat.pow_lt_pow_right (m := j) (n := 8) (by omega) hj
  have := xor8 y (2 ^ j) hy h
  have e : (2 : Int) ^ j % 256 = ((2 ^ j : Nat) : Int) := by
    have e2 : (2 : Int) ^ j = ((2 ^ j : Nat) : Int) := by simp
    rw [e2]
    generalize 2 ^ j = t at h
    omega
  rw [e]; exact this
theorem idxB (g N cap j : Nat) (x : Int) (hx : x = (j : Int)) (h : j < N) (w : World) : (Instr.indexAt 22 (.slice (some ⟨g, 0, none⟩) N cap) (.int .i64 x)).run Try.prog w = .ok (.pointer (some ⟨g, j, none⟩)) w := by
  subst hx
  have hz := Try.sizeOf5
  have he : Try.prog.elem 22 = 5 := by kernel_rfl
  have hr := run_indexAt_slice (P := Try.prog) (w := w) 22 ⟨g, 0, none⟩ N cap .i64 (j : Int) (by kernel_rfl)
  rw [hr, if_pos ⟨by omega, by omega⟩, he, hz]
  simp [Result.andThen, Addr.add]
  try (intro hh; omega)
set_option maxRecDepth 100000 in
set_option maxHeartbeats 8000000 in
theorem law_bursts (A : Option Addr) (c cap : Nat) (l : List Nat) (at_ : Int) (pat : Nat) (W : World) (hb : BytesAt W A l) (hc : l.length = c) (hcap : c ≤ cap) (hcap2 : cap ≤ 140737488351232) (hat : I64 at_) (hpat : pat < 4294967296) :
    Calls Try.prog 12 #[.slice A c cap, .int .i64 at_, .int .u32 (pat : Int)] W (Ret (.bool true) W) := by
  have KA : Hid (Calls Try.prog 46 #[.slice A c cap] W (OwnRet (l ++ tailL (crcB 0#32 l)) W)) := p_append A c cap l W hb hc (by omega)
  obtain ⟨m, hm⟩ : ∃ la, l ++ tailL (crcB 0#32 l) = la := ⟨_, rfl⟩
  have hml : m.length = c + 4 := by rw [← hm, List.length_append, hc]; rfl
  have hchk : chk m = true := by rw [← hm]; exact chk_app l
  rw [hm] at KA
  have KM : Hid (∀ w, Calls Try.prog 32 #[.int .i64 at_, .int .i64 (8 * ((c : Int) + 4))] w (IntIn (InN (8 * ((c : Int) + 4))) .i64 w)) := fun w => (t_mod at_ (8 * ((c : Int) + 4)) w hat ⟨by omega, by omega⟩).mono fun _ _ q => ⟨_, q.1, modN_in _ _, q.2.symm⟩
  have q1 : (((c : Int) + 4) != ((c : Int) + 4)) = false := by simp
  have Hml := hide hml
  have Hchk := hide hchk
  clear hb hc hm hml hchk hat
  go_enter Try.func12, Try.ntmps12
  go_wp2_with fail
  (with_reducible refine (KA.out).mono ?_)
  rintro e w1 ⟨v1, rfl, hO, hE⟩
  obtain ⟨A1, cap1, rfl, hle1, hcap1, _⟩ := hO.at_
  rw [Hml.out] at hO hle1 ⊢
  obtain ⟨g, rest, rfl, hgW, hrow, _, hcapr, _⟩ := own_block hO (by omega)
  have hmb := hO.2
  have HE := hide hE
  have Hrow := hide hrow
  have Hcapr := hide hcapr
  have hmb := hide hmb
  clear hO hE hrow hcapr
  go_wp2_with fail
  (with_reducible refine (KM.out _).mono ?_)
  rintro e w1' ⟨v, rfl, hv, rfl⟩
  have v0 := hv.1
  have v1 := hv.2.1 (by omega)
  obtain ⟨a, rfl⟩ := Int.eq_ofNat_of_zero_le v0
  have ha : a < 8 * (c + 4) := by omega
  clear v0 v1 hv
  go_wp2_with fail
  go_loopw [8, 9] (fun chv i wr => ∃ (k : Nat) (ch : Bool) (q : List Nat), k ≤ 32 ∧ a + k ≤ 8 * (c + 4) ∧ i = .int .i64 k ∧ chv = .bool ch ∧ Hid (Bst m a pat W.heap.size g rest k ch q wr) ∧ Hid (Below W.heap.size W wr)) (fun _ i _ => 32 - (intOf i).toNat)
  case atStart => exact ⟨0, false, m, by omega, by omega, rfl, rfl, hide ⟨hmb.out, rfl, by simp [Pk], by simp [Pk], Hrow.out⟩, HE⟩
  case round =>
    clear Hrow HE
    obtain ⟨k, ch, q, hk, hak, rfl, rfl, HB, HE⟩ := hrel
    by_cases h32 : k < 32
    · by_cases h8 : a + k < 8 * (c + 4)
      · have hj : (a + k) / 8 < c + 4 := by omega
        have hjq : (a + k) / 8 < q.length := by rw [HB.out.len, Hml.out]; exact hj
        have hix := idxB g (c + 4) cap1 ((a + k) / 8) (((a : Int) + (k : Int)) / 8) (by omega) hj
        have hcl : w1.cell? ⟨g, 0, none⟩ = w1.cell? ⟨g, 0, none⟩ := rfl
        have c1 : wr.cell? ⟨g, (a + k) / 8, none⟩ = some (.int .u8 ((q.getD ((a + k) / 8) 0 : Nat) : Int)) := by
          rw [cell_of_row wr g _ _ _ _ HB.out.row, getD_lt hjq]
          simp [u8s, hjq, List.getElem?_append_left]
        have f1 : wr.frozen? ⟨g, (a + k) / 8, none⟩ = false := Blk.frozen (show Blk wr g 5 (u8s q ++ rest).toArray from HB.out.row) _
        have hbt := bit_at pat k hpat
        obtain ⟨y, hy⟩ : ∃ y, q.getD ((a + k) / 8) 0 = y := ⟨_, rfl⟩
        have hy256 : y < 256 := by rw [← hy]; exact HB.out.b.get _
        rw [hy] at c1
        have Hy := hide hy
        have kb := (Nat.mod_lt (a + k) (show 0 < 8 by omega))
        have hxv := xor_bit y ((a + k) % 8) hy256 kb
        have Hlt := hide (show a + k < 8 * m.length by rw [Hml.out]; exact h8)
        clear hcl hjq hy kb
        cases hbit : Nat.testBit pat k with
        | false =>
          rw [hbit] at hbt
          have Hbit := hide hbit
          clear hbit
          go_wp2_with fail
          go_roundw
          case rel => exact ⟨k + 1, ch, q, by omega, by omega, by go_num, rfl, hide (HB.out.skip Hbit.out), HE⟩
          case measure => simp [intOf]; omega
        | true =>
          rw [hbit] at hbt
          have Hbit := hide hbit
          clear hbit
          go_wp2_with fail
          go_roundw
          case rel => exact ⟨k + 1, true, flip q (a + k), by omega, by omega, by go_num, rfl, hide (HB.out.flip Hbit.out Hlt.out _ (by rw [Hy.out])), hide (HE.out.setCell hgW _)⟩
          case measure => simp [intOf]; omega
      · have hK : a + k = 8 * (c + 4) := by omega
        have n8 : ¬ ((a : Int) + (k : Int) < 8 * ((c : Int) + 4)) := by omega
        have hd8 : decide ((a : Int) + (k : Int) < 8 * ((c : Int) + 4)) = false := decide_eq_false n8
        have fin := burst hmb.out HB.out.b HB.out.len (by rw [Hml.out]; omega) Hchk.out (Pk pat k) a k (Pk_lt pat k) hk (by rw [Hml.out]; omega) HB.out.val
        rw [← HB.out.ch] at fin
        have hbq : BytesAt wr (some ⟨g, 0, none⟩) q := by
          refine ⟨HB.out.b, by rw [HB.out.len, Hml.out]; omega, fun _ => ⟨g, 0, rfl, (Array.getElem?_eq_some_iff.1 HB.out.row).1, fun j hj => ?_⟩⟩
          rw [Nat.zero_add, cell_of_row wr g _ _ _ _ HB.out.row, getD_lt hj]
          simp [u8s, hj, List.getElem?_append_left]
        have KC : Hid (∀ w, Ext wr w → Calls Try.prog 47 #[.slice (some ⟨g, 0, none⟩) (c + 4) cap1] w (Ret (.bool (!ch)) w)) := fun w e => p_check _ (c + 4) cap1 q w (hbq.ext e) (by rw [HB.out.len]; exact Hml.out) (by have := Hcapr.out; omega) _ fin
        have K0 : Hid (∀ w, Calls Try.prog 41 #[] w (Ret (.bool true) w)) := fun w => l_known6 w
        have EE : Hid (Ext wr wr) := Ext.refl _
        clear fin hbq HB
        go_wp2_with (first
          | (go_at_call 41; (with_reducible refine (K0.out _).mono ?_); rintro e w4 ⟨rfl, hE⟩; have EE := hide (EE.out.trans hE); clear hE)
          | (go_at_call 47; (with_reducible refine (KC.out _ EE.out).mono ?_); rintro e w5 ⟨rfl, hE⟩; have EE := hide (EE.out.trans hE); clear hE))
        go_ret
        exact ⟨rfl, Ext.trans HE.out EE.out⟩
    · have n8 : ¬ ((k : Int) < 32) := by omega
      have fin := burst hmb.out HB.out.b HB.out.len (by rw [Hml.out]; omega) Hchk.out (Pk pat k) a k (Pk_lt pat k) hk (by rw [Hml.out]; omega) HB.out.val
      rw [← HB.out.ch] at fin
      have hbq : BytesAt wr (some ⟨g, 0, none⟩) q := by
        refine ⟨HB.out.b, by rw [HB.out.len, Hml.out]; omega, fun _ => ⟨g, 0, rfl, (Array.getElem?_eq_some_iff.1 HB.out.row).1, fun j hj => ?_⟩⟩
        rw [Nat.zero_add, cell_of_row wr g _ _ _ _ HB.out.row, getD_lt hj]
        simp [u8s, hj, List.getElem?_append_left]
      have KC : Hid (∀ w, Ext wr w → Calls Try.prog 47 #[.slice (some ⟨g, 0, none⟩) (c + 4) cap1] w (Ret (.bool (!ch)) w)) := fun w e => p_check _ (c + 4) cap1 q w (hbq.ext e) (by rw [HB.out.len]; exact Hml.out) (by have := Hcapr.out; omega) _ fin
      have K0 : Hid (∀ w, Calls Try.prog 41 #[] w (Ret (.bool true) w)) := fun w => l_known6 w
      have EE : Hid (Ext wr wr) := Ext.refl _
      clear fin hbq HB
      go_wp2_with (first
        | (go_at_call 41; (with_reducible refine (K0.out _).mono ?_); rintro e w4 ⟨rfl, hE⟩; have EE := hide (EE.out.trans hE); clear hE)
        | (go_at_call 47; (with_reducible refine (KC.out _ EE.out).mono ?_); rintro e w5 ⟨rfl, hE⟩; have EE := hide (EE.out.trans hE); clear hE))
      go_ret
      exact ⟨rfl, Ext.trans HE.out EE.out⟩
end Go.Proofs.Ythlficnmpgkceaa
